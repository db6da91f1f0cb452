/-
  States without addresses: rows of the frame's own that grow, held beside a state; reading them; regions in whatever order. My own text.
-/
import Derived.Test.YtpopeipcjpfbaaaAbsH
import Derived.Laws.MakeOwn
import Derived.Laws.Slices
namespace Go.Proofs.Ytpopeipcjpfbaaa
open Go.RowKit
set_option linter.unusedVariables false
set_option linter.unusedSimpArgs false
/-- a row that grows: its things' type and size, its slice, how many things, their cells. -/
structure HRow where
  e : Nat
  sz : Nat
  v : Value
  n : Nat
  ys : List AC
abbrev Rws := Nat → Option HRow
def noRows : Rws := fun _ => none
def row1 (i : Nat) (r : HRow) : Rws := upd noRows i r
def RLe (R R' : Rws) : Prop := ∀ i r, R i = some r → R' i = some r
theorem RLe.refl (R : Rws) : RLe R R := fun _ _ h => h
theorem row1_le (f : Rws) (i : Nat) (r : HRow) : RLe (row1 i r) (upd f i r) := by
  intro j q h
  by_cases e : j = i
  · subst e; rw [row1, upd_same] at h; rw [upd_same]; exact h
  · rw [row1, upd_ne _ _ e] at h; cases h
/-- the address of a row's cell. -/
def rowPtr (v : Value) (off : Nat) : Value := match v with
  | .slice (some a) _ _ => .pointer (some (a.add off))
  | _ => .pointer none
/-- a slice of a row, from its thing lo on, to its thing hi. -/
def rowSl (v : Value) (z lo hi : Nat) : Value := match v with
  | .slice A _ c => sliced A lo hi c z
  | _ => v
structure RowOK (B0 : Base) (A : Nat → Prop) (s : AS) (ρ : Nat → Nat) (w : World) (r : HRow) : Prop where
  cells : ∃ xs, w.ownsRow 0 r.e r.sz r.v r.n xs ∧ RpL (s.free A ρ) ρ w r.ys xs
  cl : ∀ y ∈ r.ys, y.closedB = true
  own : ∀ g, r.v.ownBlock = some g → ¬ A g ∧ ∀ k cs, s.mem k = some cs → ρ k ≠ g
structure RR (B0 : Base) (A0 : Nat → Prop) (R : Rws) (s : AS) (a : Act) (w : World) (A : Nat → Prop) (ρ : Nat → Nat) : Prop where
  up : ∀ b, B0.W.heap.size ≤ b → A0 b
  sub : ∀ b, A b → A0 b
  rel : Rel (hbase s ρ w) A s ρ a w
  mine : ∀ k cs, s.mem k = some cs → ¬ B0.F (ρ k)
  below : BelowB B0 w
  rows : ∀ i r, R i = some r → RowOK B0 A s ρ w r
  apart : ∀ i j r q, R i = some r → R j = some q → i ≠ j → ∀ g, r.v.ownBlock = some g → q.v.ownBlock ≠ some g
  hot : ∀ i r g, R i = some r → r.v.ownBlock = some g → ¬ B0.F g ∧ A0 g
  anch : Anch B0 s ρ
def RRel (B0 : Base) (A0 : Nat → Prop) (R : Rws) (s : AS) (a : Act) (w : World) : Prop := ∃ A ρ, RR B0 A0 R s a w A ρ
section
variable {P : Program} {B0 : Base} {A0 A : Nat → Prop} {R : Rws} {s s' : AS} {a a' : Act} {w w' : World} {ρ ρ' : Nat → Nat} {o oi oj : Oper} {ops : Array Oper}
theorem RpL.closed_map {U U' : Nat → Prop} {xs : List AC} {vs : List Value} (h : RpL U ρ w xs vs) (hc : ∀ y ∈ xs, y.closedB = true) (hU : ∀ b, U b → b < w.heap.size → U' b ∧ w'.heap[b]? = w.heap[b]?) : RpL U' ρ' w' xs vs :=
  h.map hU fun j x hx hj => absurd hj (AC.closed_of (hc x hx) j)
theorem RR.next (h : RR B0 A0 R s a w A ρ) (hR' : Rel (hbase s ρ w) A s' ρ' a' w') : RR B0 A0 R s' a' w' A ρ' := by
  have hcase : ∀ k cs, s'.mem k = some cs → w.heap.size ≤ ρ' k ∨ ∃ j cs, s.mem j = some cs ∧ ρ j = ρ' k := by
    intro k cs hk
    obtain ⟨_, _, _, _, hF⟩ := hR'.mm k cs hk
    rcases Nat.lt_or_ge (ρ' k) w.heap.size with hl | hl
    · exact .inr (Classical.byContradiction fun hn => hF ⟨hl, fun j cs hj e => hn ⟨j, cs, hj, e⟩⟩)
    · exact .inl hl
  have hfree : ∀ b, s.free A ρ b → b < w.heap.size → s'.free A ρ' b ∧ w'.heap[b]? = w.heap[b]? := fun b hb hl => by
    refine ⟨⟨hb.1, fun k cs hk e => ?_⟩, hR'.below.block b ⟨hl, fun k cs hk => hb.2 k cs hk⟩⟩
    rcases hcase k cs hk with h1 | ⟨j, cs', hj, e'⟩
    · omega
    · exact hb.2 j cs' hj (e'.trans e)
  refine ⟨h.up, h.sub, hR'.hot fun b hb => hR'.up b (Nat.le_trans hR'.below.size hb), fun k cs hk hf => ?_, ⟨hR'.below.os.trans h.below.os, hR'.below.tape.trans h.below.tape, hR'.below.output.trans h.below.output, Nat.le_trans h.below.size hR'.below.size, fun b hf => ?_⟩, fun i r hi => ?_, h.apart, h.hot, anch_next h.anch hR'⟩
  · rcases hcase k cs hk with h1 | ⟨j, cs', hj, e⟩
    · have := B0.lt _ hf; have := h.below.size; omega
    · rw [← e] at hf; exact h.mine j cs' hj hf
  · exact (hR'.below.block b ⟨Nat.lt_of_lt_of_le (B0.lt b hf) h.below.size, fun k cs hk e => h.mine k cs hk (by rw [e]; exact hf)⟩).trans (h.below.block b hf)
  · obtain ⟨⟨xs, ho, hl⟩, hc, hg⟩ := h.rows i r hi
    refine ⟨⟨xs, ownsRow_kept ho fun g q => hR'.below.block g ⟨(ho.lt g q).2, (hg g q).2⟩, hl.closed_map hc hfree⟩, hc, fun g q => ⟨(hg g q).1, fun k cs hk he => ?_⟩⟩
    rcases hcase k cs hk with h1 | ⟨j, cs', hj, e⟩
    · have := (ho.lt g q).2; omega
    · exact (hg g q).2 j cs' hj (e.trans he)
theorem RR.put {d : Option Nat} {av : AV} {v : Value} (h : RR B0 A0 R s a w A ρ) (hd : ∀ d', d = some d' → d' < s.n) (hv : RpV (s.free A ρ) ρ w av v) : RR B0 A0 R (s.put d av) (a.put d v) w A ρ := h.next (h.rel.put hd hv)
theorem RR.le {R' : Rws} (h : RR B0 A0 R s a w A ρ) (l : RLe R' R) : RR B0 A0 R' s a w A ρ :=
  ⟨h.up, h.sub, h.rel, h.mine, h.below, fun i r hi => h.rows i r (l i r hi), fun i j r q hi hj => h.apart i j r q (l i r hi) (l j q hj), fun i r g hi => h.hot i r g (l i r hi), h.anch⟩
theorem RR.les (h : RR B0 A0 R s a w A ρ) (l : s.Le s') : RR B0 A0 R s' a w A ρ := h.next (h.rel.le l)
/-- what is read off a row. -/
inductive HRead (P : Program) (R : Rws) (look : Operand → Option AV) (o : Oper) : AV → Prop
  | len (i : Nat) (r : HRow) (t z : Nat) (x : Operand) (hi : R i = some r) (ho : o.op = .call ⟨.builtin .len, #[x], #[t]⟩) (hx : look x = some (vC r.v)) (ht : sliOf P t = some z) : HRead P R look o (vI r.n)
  | idx (i : Nat) (r : HRow) (t : Nat) (x y : Operand) (ik : IntKind) (j : Int) (hi : R i = some r) (ho : o.op = .indexAddr t x y) (hx : look x = some (vC r.v)) (hy : look y = some (vC (.int ik j))) (h0 : 0 ≤ j) (h1 : j < r.n) (ht : sliOf P t = some r.sz) : HRead P R look o (vC (rowPtr r.v (j.toNat * r.sz)))
  | fld (i : Nat) (r : HRow) (off t f fo : Nat) (x : Operand) (hi : R i = some r) (hn : 0 < r.n) (ho : o.op = .fieldAddr t x f) (hx : look x = some (vC (rowPtr r.v off))) (ht : fldOf P t f = some fo) : HRead P R look o (vC (rowPtr r.v (off + fo)))
  | load (i : Nat) (r : HRow) (off lt : Nat) (x : Operand) (av : AW) (hi : R i = some r) (hn : 0 < r.n) (ho : o.op = .load lt x) (hx : look x = some (vC (rowPtr r.v off))) (hv : pick P lt r.ys off = some av) : HRead P R look o (.w av)
  | sl (i : Nat) (r : HRow) (t lo hi : Nat) (x : Operand) (yl yh : Option Operand) (hi' : R i = some r) (ho : o.op = .slice t x yl yh none) (hx : look x = some (vC r.v)) (hl : (yl = none ∧ lo = 0 ∧ yh ≠ none) ∨ ∃ y, yl = some y ∧ look y = some (vC (.int .i64 lo))) (hh : (yh = none ∧ hi = r.n) ∨ ∃ y, yh = some y ∧ look y = some (vC (.int .i64 hi))) (h1 : lo ≤ hi) (h2 : hi ≤ r.n) (ht : sliOf P t = some r.sz) : HRead P R look o (vC (rowSl r.v r.sz lo hi))
  | lenS (i : Nat) (r : HRow) (t z lo hi : Nat) (x : Operand) (hi' : R i = some r) (ho : o.op = .call ⟨.builtin .len, #[x], #[t]⟩) (hx : look x = some (vC (rowSl r.v r.sz lo hi))) (ht : sliOf P t = some z) : HRead P R look o (vI ((hi - lo : Nat) : Int))
  | idxS (i : Nat) (r : HRow) (t lo hi : Nat) (x y : Operand) (ik : IntKind) (j : Int) (hi' : R i = some r) (ho : o.op = .indexAddr t x y) (hx : look x = some (vC (rowSl r.v r.sz lo hi))) (hy : look y = some (vC (.int ik j))) (h0 : 0 ≤ j) (h1 : j < ((hi - lo : Nat) : Int)) (h2 : hi ≤ r.n) (ht : sliOf P t = some r.sz) : HRead P R look o (vC (rowPtr r.v ((lo + j.toNat) * r.sz)))
theorem HRead.congr {look look' : Operand → Option AV} {av : AV} (h : HRead P R look o av) (e : ∀ x ∈ o.op.operands, look' x = look x) : HRead P R look' o av := by
  cases h with
  | len i r t z x hi ho hx ht => exact .len i r t z x hi ho (by rw [e x (by simp [ho, Op.operands, Call.operands])]; exact hx) ht
  | idx i r t x y ik j hi ho hx hy h0 h1 ht => exact .idx i r t x y ik j hi ho (by rw [e x (by simp [ho, Op.operands])]; exact hx) (by rw [e y (by simp [ho, Op.operands])]; exact hy) h0 h1 ht
  | fld i r off t f fo x hi hn ho hx ht => exact .fld i r off t f fo x hi hn ho (by rw [e x (by simp [ho, Op.operands])]; exact hx) ht
  | load i r off lt x av hi hn ho hx hv => exact .load i r off lt x av hi hn ho (by rw [e x (by simp [ho, Op.operands])]; exact hx) hv
  | sl i r t lo hi x yl yh hi' ho hx hl hh h1 h2 ht =>
    refine .sl i r t lo hi x yl yh hi' ho (by rw [e x (by simp [ho, Op.operands])]; exact hx) ?_ ?_ h1 h2 ht
    · rcases hl with h | ⟨y, rfl, h⟩
      · exact .inl h
      · exact .inr ⟨y, rfl, by rw [e y (by simp [ho, Op.operands])]; exact h⟩
    · rcases hh with h | ⟨y, rfl, h⟩
      · exact .inl h
      · exact .inr ⟨y, rfl, by rw [e y (by simp [ho, Op.operands])]; exact h⟩
  | lenS i r t z lo hi x hi' ho hx ht => exact .lenS i r t z lo hi x hi' ho (by rw [e x (by simp [ho, Op.operands, Call.operands])]; exact hx) ht
  | idxS i r t lo hi x y ik j hi' ho hx hy h0 h1 h2 ht => exact .idxS i r t lo hi x y ik j hi' ho (by rw [e x (by simp [ho, Op.operands])]; exact hx) (by rw [e y (by simp [ho, Op.operands])]; exact hy) h0 h1 h2 ht
theorem HRead.rows {R' : Rws} {look : Operand → Option AV} {av : AV} (h : HRead P R look o av) (l : RLe R R') : HRead P R' look o av := by
  cases h with
  | len i r t z x hi ho hx ht => exact .len i r t z x (l _ _ hi) ho hx ht
  | idx i r t x y ik j hi ho hx hy h0 h1 ht => exact .idx i r t x y ik j (l _ _ hi) ho hx hy h0 h1 ht
  | fld i r off t f fo x hi hn ho hx ht => exact .fld i r off t f fo x (l _ _ hi) hn ho hx ht
  | load i r off lt x av hi hn ho hx hv => exact .load i r off lt x av (l _ _ hi) hn ho hx hv
  | sl i r t lo hi x yl yh hi' ho hx hl hh h1 h2 ht => exact .sl i r t lo hi x yl yh (l _ _ hi') ho hx hl hh h1 h2 ht
  | lenS i r t z lo hi x hi' ho hx ht => exact .lenS i r t z lo hi x (l _ _ hi') ho hx ht
  | idxS i r t lo hi x y ik j hi' ho hx hy h0 h1 h2 ht => exact .idxS i r t lo hi x y ik j (l _ _ hi') ho hx hy h0 h1 h2 ht
theorem pick_cells {U : Nat → Prop} {ty : TypeId} {ys : List AC} {off : Nat} {av : AW} {xs : List Value} {b : Addr} (hv : pick P ty ys off = some av) (hl : RpL U ρ w ys xs) (hc : ∀ j u, xs[j]? = some u → w.cell? (b.add j) = some u) :
    ∃ v, (loadVar ty (b.add off)).run P w = .ok v w ∧ RpW U ρ w av v := by
  unfold pick at hv
  have key : ∀ d, P.underlying ty = some d → ((∃ fs, d = .struct fs) ∨ ∃ n e, d = .array n e) → ((P.info? ty).bind fun i => if off + i.size ≤ ys.length then some (AW.agg ((ys.drop off).take i.size)) else none) = some av → ∃ v, (loadVar ty (b.add off)).run P w = .ok v w ∧ RpW U ρ w av v := by
    intro d hu hd h
    cases hi : P.info? ty with
    | none => rw [hi] at h; cases h
    | some i =>
      rw [hi] at h
      simp only [Option.bind_some] at h
      split at h
      · rename_i hle
        cases h
        have hs := hl.sub off i.size
        have hlen : ((xs.drop off).take i.size).length = i.size := by have := hl.1; simp; omega
        refine ⟨_, run_loadVar_agg hu hd hi hlen (fun j v hj => ?_), _, rfl, hs⟩
        have hj' : j < i.size := by rw [← hlen]; exact (List.getElem?_eq_some_iff.1 hj).1
        rw [List.getElem?_take_of_lt hj', List.getElem?_drop] at hj
        rw [add_add']
        exact hc _ v hj
      · cases h
  have key1 : ∀ d, P.underlying ty = some d → (∀ fs, d ≠ .struct fs) → (∀ n e, d ≠ .array n e) → (ys[off]?).map AW.one = some av → ∃ v, (loadVar ty (b.add off)).run P w = .ok v w ∧ RpW U ρ w av v := by
    intro d hu h1 h2 h
    cases hx : ys[off]? with
    | none => rw [hx] at h; cases h
    | some x =>
      rw [hx] at h
      cases h
      have hlt : off < xs.length := by rw [← hl.1]; exact (List.getElem?_eq_some_iff.1 hx).1
      have hv := List.getElem?_eq_getElem hlt
      exact ⟨_, run_loadVar_one hu h1 h2 (hc off _ hv), hl.2 off x _ hx hv⟩
  cases hu : P.underlying ty with
  | none => rw [hu] at hv; cases hv
  | some d =>
    rw [hu] at hv
    cases d <;> first | exact key _ hu (.inl ⟨_, rfl⟩) hv | exact key _ hu (.inr ⟨_, _, rfl⟩) hv | exact key1 _ hu (fun _ h => by cases h) (fun _ _ h => by cases h) hv
theorem RowOK.slice {r : HRow} (h : RowOK B0 A s ρ w r) : ∃ Ad c, r.v = .slice Ad r.n c ∧ (0 < r.n → ∃ g, Ad = some ⟨g, 0, none⟩) := by
  obtain ⟨⟨xs, ho, _⟩, _, _⟩ := h
  rcases ho.2 with ⟨e, e0⟩ | ⟨g, cap, cur, e, _⟩
  · exact ⟨none, 0, by rw [e, e0], fun h => by omega⟩
  · exact ⟨_, _, e, fun _ => ⟨g, rfl⟩⟩
theorem RowOK.slice2 {r : HRow} (h : RowOK B0 A s ρ w r) : ∃ Ad c, r.v = .slice Ad r.n c ∧ r.n ≤ c ∧ (0 < r.n → ∃ g, Ad = some ⟨g, 0, none⟩) := by
  obtain ⟨⟨xs, ho, _⟩, _, _⟩ := h
  rcases ho.2 with ⟨e, e0⟩ | ⟨g, cap, cur, e, _, _, hnc, _⟩
  · exact ⟨none, 0, by rw [e, e0], by omega, fun h => by omega⟩
  · exact ⟨_, _, e, hnc, fun _ => ⟨g, rfl⟩⟩
theorem rowSl_at {g n c z lo hi : Nat} (h1 : lo < hi) (h2 : hi ≤ c) : rowSl (.slice (some ⟨g, 0, none⟩) n c) z lo hi = .slice (some ((⟨g, 0, none⟩ : Addr).add (lo * z))) (hi - lo) (c - lo) := by
  unfold rowSl sliced
  simp only
  rw [if_neg (by omega)]; rfl
theorem HRead.closed {av : AV} (h : HRead P R s.look o av) (hR : ∀ i r, R i = some r → ∀ y ∈ r.ys, y.closedB = true) : av.closed := by
  cases h with
  | len => exact fun j => noown _ j
  | idx => exact fun j => noown _ j
  | fld => exact fun j => noown _ j
  | sl => exact fun j => noown _ j
  | lenS => exact fun j => noown _ j
  | idxS => exact fun j => noown _ j
  | load i r off lt x av hi hn ho hx hv =>
    rintro j ⟨y, hy, hj⟩
    exact AC.closed_of (hR i r hi y (pick_mem hv y hy)) j hj
theorem HRead.sound {av : AV} (h : HRead P R s.look o av) (hR : RR B0 A0 R s a w A ρ) : ∃ v, (execOp a.eval o).run P w = .ok (.value v) w ∧ RpV (s.free A ρ) ρ w av v := by
  cases h with
  | len i r t z x hi ho hx ht =>
    obtain ⟨Ad, c, e, _⟩ := (hR.rows i r hi).slice
    have hv : a.eval x = r.v := (hR.rel.look hx).1
    obtain ⟨el, ti, hu, _, _⟩ := sliOf_spec ht
    have hu' : P.underlying t = some (.slice (P.elem t)) := by rw [elem_slice hu]; exact hu
    refine ⟨.int .i64 r.n, ?_, rfl, rfl⟩
    have em : (#[x] : Array Operand).map a.eval = #[.slice Ad r.n c] := by simp [hv, e]
    simp only [execOp, ho, resolve, em, Sem.run_bind, Sem.run_pure, Result.andThen_ok, invoke, builtin]
    rw [run_len_slice w t _ Ad r.n c hu']
    rfl
  | idx i r t x y ik j hi ho hx hy h0 h1 ht =>
    obtain ⟨Ad, c, e, hA⟩ := (hR.rows i r hi).slice
    obtain ⟨g, rfl⟩ := hA (by omega)
    have hv : a.eval x = r.v := (hR.rel.look hx).1
    have hj : a.eval y = .int ik j := (hR.rel.look hy).1
    obtain ⟨el, ti, hu, hi', hs⟩ := sliOf_spec ht
    refine ⟨rowPtr r.v (j.toNat * r.sz), ?_, rfl, by rw [e]; rfl⟩
    rw [e] at hv ⊢
    simp only [execOp, ho, Instr.indexAt, hv, hj, asIntOf, Sem.run_bind, Sem.run_pure, Result.andThen_ok, run_underlying hu, run_sizeOf' hi', if_pos (And.intro h0 h1), hs, rowPtr]
  | fld i r off t f fo x hi hn ho hx ht =>
    obtain ⟨Ad, c, e, hA⟩ := (hR.rows i r hi).slice
    obtain ⟨g, rfl⟩ := hA hn
    have hv : a.eval x = rowPtr r.v off := (hR.rel.look hx).1
    rw [e] at hv ⊢
    unfold fldOf at ht
    split at ht
    · rename_i fs hu
      cases hf : fs[f]? with
      | none => rw [hf] at ht; cases ht
      | some fd =>
        rw [hf] at ht
        simp only [Option.bind_some] at ht
        cases hi : P.info? fd.type with
        | none => rw [hi] at ht; cases ht
        | some ti =>
          rw [hi] at ht
          simp only [Option.bind_some] at ht
          split at ht
          · cases ht
          · rename_i hne
            cases ht
            refine ⟨_, ?_, rfl, rfl⟩
            simp only [execOp, ho, Instr.fieldAt, hv, rowPtr, Instr.sureAddr, Sem.run_bind, Sem.run_pure, Result.andThen_ok, run_underlying hu, hf, fieldPlace, run_sizeOf' hi, if_neg hne, add_add']
    · cases ht
  | load i r off lt x av hi hn ho hx hv =>
    have hok := hR.rows i r hi
    obtain ⟨Ad, c, e, hA⟩ := hok.slice
    obtain ⟨g, rfl⟩ := hA hn
    have hvx : a.eval x = rowPtr r.v off := (hR.rel.look hx).1
    obtain ⟨⟨xs, ho', hl⟩, _, _⟩ := hok
    obtain ⟨v, h1, h2⟩ := pick_cells hv hl (ho'.cells (g := g) (by rw [e]; rfl))
    rw [e] at hvx
    refine ⟨v, ?_, h2⟩
    simp only [execOp, ho, Instr.loadAt, hvx, rowPtr, Instr.sureAddr, Sem.run_bind, Sem.run_pure, Result.andThen_ok, h1]
  | sl i r t lo hi x yl yh hi' ho hx hl hh h1 h2 ht =>
    obtain ⟨Ad, c, e, hnc, _⟩ := (hR.rows i r hi').slice2
    have hv : a.eval x = r.v := (hR.rel.look hx).1
    rw [e] at hv
    obtain ⟨el, ti, hu, hti, hs⟩ := sliOf_spec ht
    have hu' : P.underlying t = some (.slice (P.elem t)) := by rw [elem_slice hu]; exact hu
    have hone : (rowSl r.v r.sz lo hi).oneCell' = true := by rw [e]; rfl
    refine ⟨_, ?_, rfl, hone⟩
    rw [e]
    rcases hl with ⟨rfl, rfl, hne⟩ | ⟨y, rfl, hy⟩
    · rcases hh with ⟨rfl, _⟩ | ⟨y, rfl, hy⟩
      · exact absurd rfl hne
      · have ey : a.eval y = .int .i64 hi := (hR.rel.look hy).1
        simp only [execOp, ho, hv, Option.map_some, Option.map_none, ey, Sem.run_bind, run_sliceAt_slice w t _ _ _ _ hu', run_slice_h w t Ad r.n c hu' .i64 hi (by omega) (by omega), elem_slice hu, run_sizeOf' hti, Result.andThen_ok, hs, Sem.run_pure, Int.toNat_natCast, rowSl]
    · have ey : a.eval y = .int .i64 lo := (hR.rel.look hy).1
      rcases hh with ⟨rfl, rfl⟩ | ⟨y', rfl, hy'⟩
      · simp only [execOp, ho, hv, Option.map_some, Option.map_none, ey, Sem.run_bind, run_sliceAt_slice w t _ _ _ _ hu', run_slice_l w t Ad r.n c hu' .i64 lo (by omega) (by omega), elem_slice hu, run_sizeOf' hti, Result.andThen_ok, hs, Sem.run_pure, Int.toNat_natCast, rowSl]
      · have ey' : a.eval y' = .int .i64 hi := (hR.rel.look hy').1
        simp only [execOp, ho, hv, Option.map_some, Option.map_none, ey, ey', Sem.run_bind, run_sliceAt_slice w t _ _ _ _ hu', run_slice_lh w t Ad r.n c hu' .i64 .i64 lo hi (by omega) (by omega) (by omega), elem_slice hu, run_sizeOf' hti, Result.andThen_ok, hs, Sem.run_pure, Int.toNat_natCast, rowSl]
  | lenS i r t z lo hi x hi' ho hx ht =>
    obtain ⟨Ad, c, e, _, _⟩ := (hR.rows i r hi').slice2
    have hv : a.eval x = rowSl r.v r.sz lo hi := (hR.rel.look hx).1
    obtain ⟨el, ti, hu, _, _⟩ := sliOf_spec ht
    have hu' : P.underlying t = some (.slice (P.elem t)) := by rw [elem_slice hu]; exact hu
    refine ⟨.int .i64 ((hi - lo : Nat) : Int), ?_, rfl, rfl⟩
    rw [e] at hv
    unfold rowSl sliced at hv
    simp only at hv
    have em : (#[x] : Array Operand).map a.eval = #[.slice (if c = lo then Ad else Ad.map (·.add (lo * r.sz))) (hi - lo) (c - lo)] := by simp only [List.map_toArray, List.map_cons, List.map_nil, hv]
    simp only [execOp, ho, resolve, em, Sem.run_bind, Sem.run_pure, Result.andThen_ok, invoke, builtin]
    rw [run_len_slice w t _ _ _ _ hu']
    rfl
  | idxS i r t lo hi x y ik j hi' ho hx hy h0 h1 h2 ht =>
    obtain ⟨Ad, c, e, hnc, hA⟩ := (hR.rows i r hi').slice2
    obtain ⟨g, rfl⟩ := hA (by omega)
    have hv : a.eval x = rowSl r.v r.sz lo hi := (hR.rel.look hx).1
    have hj : a.eval y = .int ik j := (hR.rel.look hy).1
    obtain ⟨el, ti, hu, hti, hs⟩ := sliOf_spec ht
    rw [e, rowSl_at (by omega) (by omega)] at hv
    refine ⟨rowPtr r.v ((lo + j.toNat) * r.sz), ?_, rfl, by rw [e]; rfl⟩
    rw [e]
    simp only [execOp, ho, Instr.indexAt, hv, hj, asIntOf, Sem.run_bind, Sem.run_pure, Result.andThen_ok, run_underlying hu, run_sizeOf' hti, if_pos (And.intro h0 h1), hs, rowPtr, add_add', Nat.add_mul]
/-- a row grows, or is made. -/
inductive HWr (P : Program) (R : Rws) (look : Operand → Option AV) (o : Oper) : (Value → Rws) → Prop
  | app (i : Nat) (r : HRow) (tt bytes m : Nat) (sx xx : Operand) (news : List AC) (hi : R i = some r) (ho : o.op = .call ⟨.builtin .append, #[sx, xx], #[tt, tt]⟩) (ht : rowTyB P tt r.e r.sz bytes = true) (hx : look sx = some (vC r.v)) (hy : look xx = some (vS r.sz m news)) (h1 : r.n + m ≤ maxLen) (h2 : (r.n + m) * bytes ≤ 140737488355328) (hc : ∀ y ∈ news, y.closedB = true) :
      HWr P R look o fun v' => upd R i ⟨r.e, r.sz, v', r.n + m, r.ys ++ news⟩
  | new (i t n e sz bytes : Nat) (parts : List (Nat × Operand)) (vs : List Value) (zs : List (Nat × AW)) (r : List AC) (hi : R i = none) (ho : o.op = .buildSlice t n parts.toArray) (ht : rowTyB P t e sz bytes = true) (hZ : sliZ P t = some vs) (hz : lookP look parts = some zs) (hb : buildN (plcN n sz) (zeroN n sz vs) zs = some r)
      (h1 : (vs.all fun v => v.oneCell') = true) (hs : vs.length = sz) (h2 : n * sz ≤ 16777216) (h3 : n ≤ maxLen) (hr : r.length = n * sz) (hcl : ∀ y ∈ r, y.closedB = true) : HWr P R look o fun v' => upd R i ⟨e, sz, v', n, r⟩
  | make (i t l c e sz bytes : Nat) (x y : Operand) (kl kc : IntKind) (vs : List Value) (hi : R i = none) (ho : o.op = .makeSlice t x y) (ht : rowTyB P t e sz bytes = true) (hZ : sliZ P t = some vs) (hx : look x = some (vC (.int kl l))) (hy : look y = some (vC (.int kc c))) (hl : l ≤ c) (h1 : (vs.all fun v => v.oneCell') = true) (hs : vs.length = sz) (h2 : bytes * c ≤ 281474976710656) (h3 : c ≤ maxLen) : HWr P R look o fun v' => upd R i ⟨e, sz, v', l, zeroN l sz vs⟩
theorem lookP_congr {look look' : Operand → Option AV} : ∀ (parts : List (Nat × Operand)), (∀ p ∈ parts, look' p.2 = look p.2) → lookP look' parts = lookP look parts
  | [], _ => rfl
  | (i, x) :: parts, h => by
    simp only [lookP]
    rw [h (i, x) (by simp), lookP_congr parts fun p hp => h p (by simp [hp])]
theorem HWr.congr {look look' : Operand → Option AV} {f : Value → Rws} (h : HWr P R look o f) (e : ∀ x ∈ o.op.operands, look' x = look x) : HWr P R look' o f := by
  cases h with
  | app i r tt bytes m sx xx news hi ho ht hx hy h1 h2 hc =>
    exact .app i r tt bytes m sx xx news hi ho ht (by rw [e sx (by simp [ho, Op.operands, Call.operands])]; exact hx) (by rw [e xx (by simp [ho, Op.operands, Call.operands])]; exact hy) h1 h2 hc
  | new i t n el sz bytes parts vs zs r hi ho ht hZ hz hb h1 hs h2 h3 hr hcl =>
    refine .new i t n el sz bytes parts vs zs r hi ho ht hZ ?_ hb h1 hs h2 h3 hr hcl
    rw [lookP_congr parts fun p hp => e p.2 ?_]
    · exact hz
    · simp only [ho, Op.operands, List.mem_toArray, List.mem_map]
      exact ⟨p, hp, rfl⟩
  | make i t l c el sz bytes x y kl kc vs hi ho ht hZ hx hy hl h1 hs h2 h3 =>
    exact .make i t l c el sz bytes x y kl kc vs hi ho ht hZ (by rw [e x (by simp [ho, Op.operands])]; exact hx) (by rw [e y (by simp [ho, Op.operands])]; exact hy) hl h1 hs h2 h3
theorem RpL.append {U : Nat → Prop} {xs ys : List AC} {vs us : List Value} (h : RpL U ρ w xs vs) (k : RpL U ρ w ys us) : RpL U ρ w (xs ++ ys) (vs ++ us) := by
  refine ⟨by rw [List.length_append, List.length_append, h.1, k.1], fun i x v hx hv => ?_⟩
  rcases Nat.lt_or_ge i xs.length with hl | hl
  · rw [List.getElem?_append_left hl] at hx
    rw [List.getElem?_append_left (by rw [← h.1]; exact hl)] at hv
    exact h.2 i x v hx hv
  · rw [List.getElem?_append_right hl] at hx
    rw [List.getElem?_append_right (by rw [← h.1]; exact hl), ← h.1] at hv
    exact k.2 _ x v hx hv
/-- the world grows by a row: all else is as it was. -/
theorem RR.grown0 {i : Nat} {r : HRow} {w2 : World} {xs : List Value} (h : RR B0 A0 R s a w A ρ) (old : Option Nat) (hold : ∀ g, old = some g → ∃ q, R i = some q ∧ q.v.ownBlock = some g) (hgr : w.grownBy w2 old)
    (hr : w2.ownsRow 0 r.e r.sz r.v r.n xs) (hblk : ∀ g, r.v.ownBlock = some g → old = some g ∨ w.heap.size ≤ g) (hl : RpL (s.free A ρ) ρ w r.ys xs) (hc : ∀ y ∈ r.ys, y.closedB = true) :
    ∃ A', RR B0 A0 (upd R i r) s a w2 A' ρ := by
  have hnew : ∀ b, s.free A ρ b → b < w.heap.size → w2.heap[b]? = w.heap[b]? := fun b hb hl' => hgr.block b hl' fun e => by
    obtain ⟨q, hq, hg⟩ := hold b e.symm
    exact ((h.rows i q hq).own b hg).1 hb.1
  have hmem : ∀ k cs, s.mem k = some cs → w2.heap[ρ k]? = w.heap[ρ k]? := fun k cs hk => hgr.block _ (h.rel.lt hk) fun e => by
    obtain ⟨q, hq, hg⟩ := hold _ e.symm
    exact ((h.rows i q hq).own _ hg).2 k cs hk rfl
  have hA2 : Rel (hbase s ρ w2) (fun b => (A b ∧ b < w.heap.size) ∨ (w2.heap.size ≤ b)) s ρ a w2 :=
    h.rel.anew (fun b hb' hl' => ⟨.inl ⟨hb', hl'⟩, hgr.block b hl' fun e => by
      obtain ⟨q, hq, hg⟩ := hold b e.symm
      exact ((h.rows i q hq).own b hg).1 hb'⟩) (fun k cs hk => ⟨hmem k cs hk, fun hf => hf.2 k cs hk rfl⟩) (BelowB.refl _) (fun b hb => .inr hb) (hbase_anch _ _ _)
  have hfree : ∀ b, s.free A ρ b → b < w.heap.size → s.free (fun b => (A b ∧ b < w.heap.size) ∨ w2.heap.size ≤ b) ρ b ∧ w2.heap[b]? = w.heap[b]? := fun b hb hl' => ⟨⟨.inl ⟨hb.1, hl'⟩, hb.2⟩, hnew b hb hl'⟩
  have main : RR B0 A0 (upd R i r) s a w2 (fun b => (A b ∧ b < w.heap.size) ∨ w2.heap.size ≤ b) ρ := by
    refine ⟨h.up, ?_, hA2, h.mine, ⟨hgr.os.trans h.below.os, hgr.tape.trans h.below.tape, hgr.output.trans h.below.output, Nat.le_trans h.below.size hgr.size, fun b hf => ?_⟩, fun j q hj => ?_, fun j k q q' hj hk hjk g hg => ?_, fun j q g hj hg => ?_, h.anch⟩
    · rintro b (hb | hb)
      · exact h.sub b hb.1
      · exact h.up b (by have := h.below.size; have := hgr.size; omega)
    · refine (hgr.block b (Nat.lt_of_lt_of_le (B0.lt b hf) h.below.size) fun e => ?_).trans (h.below.block b hf)
      obtain ⟨q, hq, hg⟩ := hold b e.symm
      exact (h.hot i q b hq hg).1 hf
    · by_cases e : j = i
      · subst e
        rw [upd_same] at hj
        cases hj
        refine ⟨⟨xs, hr, hl.closed_map hc hfree⟩, hc, fun g hg => ⟨?_, fun k cs hk => ?_⟩⟩
        · rintro (hb | hb)
          · rcases hblk g hg with q | q
            · obtain ⟨p, hp, hpg⟩ := hold g q
              exact ((h.rows j p hp).own g hpg).1 hb.1
            · omega
          · have := (hr.lt g hg).2; omega
        · rcases hblk g hg with q | q
          · obtain ⟨p, hp, hpg⟩ := hold g q
            exact ((h.rows j p hp).own g hpg).2 k cs hk
          · have := h.rel.lt hk; omega
      · rw [upd_ne _ _ e] at hj
        obtain ⟨⟨us, ho, hul⟩, huc, hug⟩ := h.rows j q hj
        refine ⟨⟨us, ownsRow_kept ho fun g hg => hgr.block g (ho.lt g hg).2 fun e' => ?_, hul.closed_map huc hfree⟩, huc, fun g hg => ⟨?_, (hug g hg).2⟩⟩
        · obtain ⟨p, hp, hpg⟩ := hold g e'.symm
          exact h.apart j i q p hj hp e g hg hpg
        · rintro (hb | hb)
          · exact (hug g hg).1 hb.1
          · have := (ho.lt g hg).2; have := hgr.size; omega
    · have old_lt : ∀ j q, R j = some q → ∀ g, q.v.ownBlock = some g → g < w.heap.size := fun j q hj g hg => by
        obtain ⟨⟨us, ho, _⟩, _, _⟩ := h.rows j q hj
        exact (ho.lt g hg).2
      by_cases e : j = i
      · subst e
        rw [upd_same] at hj
        cases hj
        rw [upd_ne _ _ (Ne.symm hjk)] at hk
        intro hg'
        rcases hblk g hg with p | p
        · obtain ⟨p', hp, hpg⟩ := hold g p
          exact h.apart j k p' q' hp hk hjk g hpg hg'
        · have := old_lt k q' hk g hg'; omega
      · rw [upd_ne _ _ e] at hj
        by_cases e2 : k = i
        · subst e2
          rw [upd_same] at hk
          cases hk
          intro hg'
          rcases hblk g hg' with p | p
          · obtain ⟨p', hp, hpg⟩ := hold g p
            exact h.apart j k q p' hj hp hjk g hg hpg
          · have := old_lt j q hj g hg; omega
        · rw [upd_ne _ _ e2] at hk
          exact h.apart j k q q' hj hk hjk g hg
    · by_cases e : j = i
      · subst e
        rw [upd_same] at hj
        cases hj
        rcases hblk g hg with p | p
        · obtain ⟨p', hp, hpg⟩ := hold g p
          exact h.hot j p' g hp hpg
        · exact ⟨fun hf => by have := B0.lt g hf; have := h.below.size; omega, h.up g (by have := h.below.size; omega)⟩
      · rw [upd_ne _ _ e] at hj
        exact h.hot j q g hj hg
  exact ⟨_, main⟩
theorem RR.grown {i : Nat} {r : HRow} {w2 : World} {xs : List Value} (h : RR B0 A0 R s a w A ρ) (old : Option Nat) (hold : ∀ g, old = some g → ∃ q, R i = some q ∧ q.v.ownBlock = some g) (hgr : w.grownBy w2 old) (hone : r.v.oneCell' = true)
    (hr : w2.ownsRow 0 r.e r.sz r.v r.n xs) (hblk : ∀ g, r.v.ownBlock = some g → old = some g ∨ w.heap.size ≤ g) (hl : RpL (s.free A ρ) ρ w r.ys xs) (hc : ∀ y ∈ r.ys, y.closedB = true) {d : Nat} (hd : d < s.n) :
    ∃ A', RR B0 A0 (upd R i r) (s.put (some d) (vC r.v)) (a.put (some d) r.v) w2 A' ρ := by
  obtain ⟨A', main⟩ := h.grown0 old hold hgr hr hblk hl hc
  exact ⟨A', main.put (d := some d) (fun d' e => by cases e; exact hd) ⟨rfl, hone⟩⟩
theorem SlP.cells_rp {U : Nat → Prop} {z n : Nat} {xs : List AC} {v : Value} (h : RpV U ρ w (vS z n xs) v) (hn : 0 < n) : ∃ b c vs, v = .slice (some b) n c ∧ n ≤ c ∧ xs.length = n * z ∧ (∀ (j : Nat) u, vs[j]? = some u → w.cell? (b.add j) = some u) ∧ RpL U ρ w xs vs := by
  obtain ⟨⟨Ad, c, e, hc, hl, hA⟩, hU⟩ := h
  obtain ⟨b, vs, rfl, hcs⟩ := hA hn
  exact ⟨b, c, vs, e, hc, hl, hcs.at_, hcs.rpl fun b' hb' => hU b' ⟨c, b, e, hn, hb'⟩⟩
theorem HWr.sound {f : Value → Rws} {d : Nat} (h : HWr P R s.look o f) (hR : RR B0 A0 R s a w A ρ) (hd : d < s.n) : ∃ v' w2 A', (execOp a.eval o).run P w = .ok (.value v') w2 ∧ v'.oneCell' = true ∧ RR B0 A0 (f v') (s.put (some d) (vC v')) (a.put (some d) v') w2 A' ρ := by
  cases h with
  | app i r tt bytes m sx xx news hi ho ht hx hy h1 h2 hc =>
    obtain ⟨ti, z, hu, hti, hz, hsize, hby, hzs, hsz⟩ := rowTy_spec ht
    have hok := hR.rows i r hi
    obtain ⟨⟨xs, hro, hrl⟩, hrc, hrg⟩ := id hok
    have hv1 : a.eval sx = r.v := (hR.rel.look hx).1
    have hvo : r.v.oneCell' = true := (hR.rel.look hx).2
    have hyv := hR.rel.look hy
    rcases Nat.eq_zero_or_pos m with rfl | hmp
    · obtain ⟨⟨Ax, cx, ex, hcx, hlx, hAx⟩, hUx⟩ := hyv
      have hnews : news = [] := by simpa using hlx
      subst hnews
      refine ⟨r.v, w, A, ?_, hvo, ?_⟩
      · rw [show (execOp a.eval o) = (do pure (.value (← Builtin.append_ #[tt, tt] o.type #[a.eval sx, a.eval xx])) : Sem Next) by
          simp only [execOp, ho, resolve, invoke, builtin, List.map_toArray, List.map_cons, List.map_nil]
          rfl]
        simp only [Sem.run_bind]
        rw [hv1, ex]
        obtain ⟨Ad, cap, hv, hnc⟩ : ∃ Ad cap, r.v = .slice Ad r.n cap ∧ r.n ≤ cap := by
          rcases hro.2 with ⟨e, e0⟩ | ⟨g, cap, cur, hv, hbg, hgg, hnc, _⟩
          · exact ⟨none, 0, by rw [e, e0], by omega⟩
          · exact ⟨_, cap, hv, hnc⟩
        rw [hv]
        cases Ad with
        | none =>
          cases Ax with
          | none => simp [Builtin.append_, run_underlying hu, sizeOf, typeInfo, hti, Builtin.lenOf, Builtin.firstCells, hnc, storeCells]
          | some ax => simp [Builtin.append_, run_underlying hu, sizeOf, typeInfo, hti, Builtin.lenOf, Builtin.firstCells, hnc, storeCells, loadCells, loadCellsFrom]
        | some ad =>
          cases Ax with
          | none => simp [Builtin.append_, run_underlying hu, sizeOf, typeInfo, hti, Builtin.lenOf, Builtin.firstCells, hnc, storeCells]
          | some ax => simp [Builtin.append_, run_underlying hu, sizeOf, typeInfo, hti, Builtin.lenOf, Builtin.firstCells, hnc, storeCells, loadCells, loadCellsFrom]
      · have e : upd R i ⟨r.e, r.sz, r.v, r.n + 0, r.ys ++ []⟩ = R := by
          funext j
          by_cases e : j = i
          · subst e; rw [upd_same, hi]; simp
          · rw [upd_ne _ _ e]
        show RR B0 A0 (upd R i ⟨r.e, r.sz, r.v, r.n + 0, r.ys ++ []⟩) _ _ _ _ _
        rw [e]
        exact hR.put (d := some d) (fun d' e => by cases e; exact hd) ⟨rfl, hvo⟩
    · obtain ⟨b, c, vs, ev, hcx, hlx, hat, hrp⟩ := SlP.cells_rp hyv hmp
      have hone : ∀ u ∈ vs, u.oneCell' = true := fun u hu' => by
        obtain ⟨j, hj⟩ := List.getElem?_of_mem hu'
        have hlt : j < news.length := by rw [hrp.1]; exact (List.getElem?_eq_some_iff.1 hj).1
        exact (hrp.2 j _ u (List.getElem?_eq_getElem hlt) hj).cell
      obtain ⟨v', w2, hrun, ho2, hgr, hblk, hone'⟩ := run_append_own2 (P := P) w 0 tt o.type r.e ti z r.sz bytes hu hti hz hsize hby hzs hsz r.v r.n xs hro b m c vs (by rw [← hrp.1]; exact hlx) hat hone h1 h2 (Nat.zero_le _) hmp
      obtain ⟨A', hR'⟩ := hR.grown (i := i) (r := ⟨r.e, r.sz, v', r.n + m, r.ys ++ news⟩) r.v.ownBlock (fun g hg => ⟨r, hi, hg⟩) hgr hone' ho2 hblk (hrl.append hrp) (fun y hy => by
        rcases List.mem_append.1 hy with h | h
        · exact hrc y h
        · exact hc y h) hd
      refine ⟨v', w2, A', ?_, hone', hR'⟩
      have hrun' : (Builtin.append_ #[tt, tt] o.type #[a.eval sx, a.eval xx]).run P w = .ok v' w2 := by rw [hv1, ev]; exact hrun
      simp only [execOp, ho, resolve, invoke, builtin, Sem.run_bind, Sem.run_pure, Result.andThen_ok, List.map_toArray, List.map_cons, List.map_nil, hrun']
  | new i t n e sz bytes parts vs zs r hi ho ht hZ hz hb h1 hs h2 h3 hr hcl =>
    obtain ⟨ti, z, hu, hti, hzz, hsize, hby, hzs, hsz⟩ := rowTy_spec ht
    unfold sliZ at hZ
    rw [hu] at hZ
    simp only at hZ
    unfold zeroOf at hZ
    rw [hti] at hZ
    simp only [Option.bind_some] at hZ
    rw [hzz] at hZ
    cases hZ
    have hlen : z.cells.toList.length = sz := hs
    have hzv : (zeroValue e).run P w = .ok z w := by simp [zeroValue, typeInfo, program, Sem.run_bind, Sem.run, hti, Result.andThen, hzz]
    have hrl : RpL (s.free A ρ) ρ w (zeroN n sz z.cells.toList) ((List.range (n * sz)).map fun j => z.cells[j % z.cells.size]!) := by
      refine ⟨by simp [zeroN], fun j x v hx hv => ?_⟩
      have hj : j < n * sz := by have := (List.getElem?_eq_some_iff.1 hv).1; simpa using this
      simp only [zeroN, List.getElem?_map, List.getElem?_range hj, Option.map_some, Option.some.injEq] at hx hv
      subst hx; subst hv
      have hlt : j % z.cells.size < z.cells.size := Nat.mod_lt _ (by omega)
      have e2 : z.cells.toList.toArray[j % z.cells.toList.length]! = z.cells[j % z.cells.size]! := by simp
      refine ⟨e2.symm, ?_⟩
      rw [e2, getElem!_pos z.cells _ hlt]
      exact List.all_eq_true.1 h1 _ (by simp)
    obtain ⟨us, g1, g2⟩ := fill_sound (U := s.free A ρ) (ρ := ρ) (W := w) (ps := plcN n sz) (place := fun i => some (i * sz, sz)) (fun i q hq => by
        simp only [plcN, List.getElem?_map] at hq
        cases hr : (List.range n)[i]? with
        | none => rw [hr] at hq; cases hq
        | some m =>
          rw [hr] at hq
          cases hq
          have := List.getElem?_eq_some_iff.1 hr
          obtain ⟨h3, h4⟩ := this
          simp at h4
          rw [h4]) (look := s.look) (env := a.eval) parts _ _ zs r hrl hz (fun p hp av ha => hR.rel.look ha) hb
    have hul : us.length = n * sz := by rw [← g2.1]; exact hr
    have hrun : (execOp a.eval o).run P w = .ok (.value (.slice (some ⟨w.heap.size, 0, none⟩) n n)) (w.alloc (.cells us.toArray e)) := by
      have hparts : (parts.toArray.map fun (i, x) => (i, a.eval x)).toList = parts.map fun p => (p.1, a.eval p.2) := by simp
      have e3 : (Array.range (n * sz)).map (fun j => z.cells[j % z.cells.size]!) = ((List.range (n * sz)).map fun j => z.cells[j % z.cells.size]!).toArray := by simp [← List.toArray_range]
      simp only [execOp, ho, Instr.buildSlice, Sem.run_bind, run_underlying hu, Result.andThen_ok, run_sizeOf' hti, hsize]
      rw [if_neg (by omega)]
      by_cases h0 : n * sz = 0
      · rw [if_pos h0]
        have e4 : (Array.range (n * sz)).map (fun j => (#[] : Array Value)[j % (#[] : Array Value).size]!) = ((List.range (n * sz)).map fun j => z.cells[j % z.cells.size]!).toArray := by rw [h0]; simp
        simp only [Sem.run_bind, Sem.run_pure, Result.andThen_ok, e4, hparts, g1, newRow, newObj, Sem.run]
        rfl
      · rw [if_neg h0]
        simp only [Sem.run_bind, Sem.run_pure, hzv, Result.andThen_ok, e3, hparts, g1, newRow, newObj, Sem.run]
        rfl
    have hnewb : (w.alloc (.cells us.toArray e)).heap[w.heap.size]? = some (.cells us.toArray e (0, 0)) := by show (w.heap.push _)[w.heap.size]? = _; simp
    obtain ⟨A', hR'⟩ := hR.grown (i := i) (r := ⟨e, sz, .slice (some ⟨w.heap.size, 0, none⟩) n n, n, r⟩) (xs := us) none (fun g hg => by cases hg) (World.grownBy_alloc w _ none) rfl ⟨hul, .inr ⟨w.heap.size, n, us.toArray, rfl, Nat.zero_le _, hnewb, Nat.le_refl _, h3, by simpa using hul, by simp [← hul]⟩⟩ (fun g hg => by simp [Value.ownBlock] at hg; exact .inr (by omega)) g2 hcl hd
    exact ⟨_, _, A', hrun, rfl, hR'⟩
  | make i t l c e sz bytes x y kl kc vs hi ho ht hZ hx hy hlc h1 hs h2 h3 =>
    obtain ⟨ti, z, hu, hti, hzz, hsize, hby, hzs, hsz⟩ := rowTy_spec ht
    unfold sliZ at hZ
    rw [hu] at hZ
    simp only at hZ
    unfold zeroOf at hZ
    rw [hti] at hZ
    simp only [Option.bind_some] at hZ
    rw [hzz] at hZ
    cases hZ
    have hlen : z.cells.toList.length = sz := hs
    have hlen' : z.cells.size = sz := by simpa using hlen
    have hvx : a.eval x = .int kl l := (hR.rel.look hx).1
    have hvy : a.eval y = .int kc c := (hR.rel.look hy).1
    have h3' : (c : Int) ≤ 9223372036854775807 := by have h := h3; simp only [maxLen] at h; omega
    have hb' : (ti.bytes : Int) * (c : Int) ≤ 281474976710656 := by
      have h : ((ti.bytes * c : Nat) : Int) ≤ 281474976710656 := by rw [hby]; omega
      rwa [Int.natCast_mul] at h
    have hr := run_make (P := P) w t e ti z hu hti hzz kl kc l c (by omega) (by omega) hb' h3'
    simp only [Int.toNat_natCast, hsize] at hr
    have hrun : (execOp a.eval o).run P w = .ok (.value (.slice (some ⟨w.heap.size, 0, none⟩) l c)) (w.alloc (.cells (madeCells z.cells (c * sz)) e)) := by
      simp only [execOp, ho, hvx, hvy, Sem.run_bind, hr, Result.andThen_ok, Sem.run_pure]
    have hnewb : (w.alloc (.cells (madeCells z.cells (c * sz)) e)).heap[w.heap.size]? = some (.cells (madeCells z.cells (c * sz)) e (0, 0)) := by show (w.heap.push _)[w.heap.size]? = _; simp
    have hmul : l * sz ≤ c * sz := Nat.mul_le_mul_right _ hlc
    have hszc : (madeCells z.cells (c * sz)).size = c * sz := size_madeCells _ _
    have htl : ((madeCells z.cells (c * sz)).toList.take (l * sz)).length = l * sz := by
      rw [List.length_take, Array.length_toList, hszc]; exact Nat.min_eq_left hmul
    have hrl : RpL (s.free A ρ) ρ w (zeroN l sz z.cells.toList) ((madeCells z.cells (c * sz)).toList.take (l * sz)) := by
      refine ⟨by rw [htl]; simp [zeroN], fun j x v hx hv => ?_⟩
      have hj : j < l * sz := by have := (List.getElem?_eq_some_iff.1 hv).1; rw [htl] at this; exact this
      rw [List.getElem?_take_of_lt hj] at hv
      simp only [zeroN, List.getElem?_map, List.getElem?_range hj, Option.map_some, Option.some.injEq] at hx
      subst hx
      have hlt : j % z.cells.size < z.cells.size := Nat.mod_lt _ (by omega)
      have e2 : z.cells.toList.toArray[j % z.cells.toList.length]! = z.cells[j % z.cells.size]! := by simp
      have hv2 : v = z.cells[j % z.cells.size]! := by
        have : (madeCells z.cells (c * sz)).toList[j]? = some z.cells[j % z.cells.size]! := by
          simp only [madeCells, Array.toList_map, List.getElem?_map]
          rw [show (Array.range (c * sz)).toList[j]? = some j by rw [Array.toList_range, List.getElem?_range (Nat.lt_of_lt_of_le hj hmul)]]
          rfl
        rw [this] at hv
        exact (Option.some.inj hv).symm
      refine ⟨by rw [e2]; exact hv2, ?_⟩
      rw [e2, getElem!_pos z.cells _ hlt]
      exact List.all_eq_true.1 h1 _ (by simp)
    obtain ⟨A', hR'⟩ := hR.grown (i := i) (r := ⟨e, sz, .slice (some ⟨w.heap.size, 0, none⟩) l c, l, zeroN l sz z.cells.toList⟩) none (fun g hg => by cases hg) (World.grownBy_alloc w _ none) rfl ⟨htl, .inr ⟨w.heap.size, c, _, rfl, Nat.zero_le _, hnewb, hlc, h3, hszc, rfl⟩⟩ (fun g hg => by simp [Value.ownBlock] at hg; exact .inr (by omega)) hrl (fun y hy => by simp only [zeroN, List.mem_map] at hy; obtain ⟨j, _, rfl⟩ := hy; rfl) hd
    exact ⟨_, _, A', hrun, rfl, hR'⟩
/-- a cell of a row is written. -/
inductive HSt (P : Program) (R : Rws) (look : Operand → Option AV) (o : Oper) : Rws → Prop
  | store (i : Nat) (r : HRow) (off ty : Nat) (x y : Operand) (z : AW) (ti : TypeInfo) (hi : R i = some r) (hn : 0 < r.n) (ho : o.op = .store ty x y) (hx : look x = some (vC (rowPtr r.v off))) (hy : look y = some (.w z)) (ht : P.info? ty = some ti) (hs : ti.size = z.cells.length) (hb : off + z.cells.length ≤ r.ys.length) (hc : ∀ q ∈ z.cells, q.closedB = true) : HSt P R look o (upd R i ⟨r.e, r.sz, r.v, r.n, splice r.ys off z.cells⟩)
theorem HSt.sound {R' : Rws} (h : HSt P R s.look o R') (hR : RR B0 A0 R s a w A ρ) : ∃ w2 A', (execOp a.eval o).run P w = .ok .skip w2 ∧ RR B0 A0 R' s a w2 A' ρ := by
  cases h with
  | store i r off ty x y z ti hi hn ho hx hy ht hs hb hc =>
    obtain ⟨⟨xs, hro, hrl⟩, hrc, hrg⟩ := hR.rows i r hi
    obtain ⟨g, cap, cur, hv, hbg, hgg, hnc, hcm, hcs, htake⟩ : ∃ g cap cur, r.v = .slice (some ⟨g, 0, none⟩) r.n cap ∧ 0 ≤ g ∧ w.heap[g]? = some (.cells cur r.e (0, 0)) ∧ r.n ≤ cap ∧ cap ≤ maxLen ∧ cur.size = cap * r.sz ∧ cur.toList.take (r.n * r.sz) = xs := by
      rcases hro.2 with ⟨_, h0⟩ | h
      · omega
      · exact h
    have hp : a.eval x = .pointer (some ⟨g, off, none⟩) := by
      have := (hR.rel.look hx).1
      rw [hv] at this
      have hadd : (⟨g, 0, none⟩ : Addr).add off = ⟨g, off, none⟩ := by unfold Addr.add; split <;> simp_all
      rw [this]; simp only [rowPtr, hadd]
    have hz : RpW (s.free A ρ) ρ w z (a.eval y) := hR.rel.look hy
    have hzc := hz.cells
    have hzl : (a.eval y).cells.size = z.cells.length := by have := hzc.1; simp at this; exact this.symm
    have hxl : r.ys.length = r.n * r.sz := by rw [hrl.1]; exact hro.1
    have hmul : r.n * r.sz ≤ cap * r.sz := Nat.mul_le_mul_right _ hnc
    have hst : (storeVar ty ⟨g, off, none⟩ (a.eval y)).run P w = .ok () (w.setRow g (cur.toList.take off ++ (a.eval y).cells.toList ++ cur.toList.drop (off + (a.eval y).cells.toList.length)).toArray) := by
      unfold storeVar
      have hne : ¬ ((a.eval y).cells.size ≠ ti.size) := by rw [hzl, hs]; simp
      simp only [Sem.run_bind, run_sizeOf' ht, Result.andThen_ok, if_neg hne]
      have hall : ∀ v ∈ (a.eval y).cells.toList, v.oneCell' = true := fun v hv' => by
        obtain ⟨j, hj⟩ := List.getElem?_of_mem hv'
        have hlt : j < z.cells.length := by rw [hzc.1]; exact (List.getElem?_eq_some_iff.1 hj).1
        exact (hzc.2 j _ v (List.getElem?_eq_getElem hlt) hj).cell
      have := run_storeCells_at (P := P) g off r.e (a.eval y).cells.toList 0 cur w hgg (by simp; omega) hall
      simpa using this
    have hoth : ∀ (u : Array Value), w.grownBy (w.setRow g u) (some g) := fun u => ⟨rfl, rfl, rfl, by simp [World.setRow], fun k _ hk => by
      simp only [World.setRow, Array.getElem?_modify]
      rw [if_neg (fun e => hk (by rw [e]))]⟩
    have hrow := setRow_heap w g cur (cur.toList.take off ++ (a.eval y).cells.toList ++ cur.toList.drop (off + (a.eval y).cells.toList.length)).toArray r.e (0, 0) hgg
    have hlen : (cur.toList.take off ++ (a.eval y).cells.toList ++ cur.toList.drop (off + (a.eval y).cells.toList.length)).length = cap * r.sz := by
      simp [hzl]; omega
    have htk : (cur.toList.take off ++ (a.eval y).cells.toList ++ cur.toList.drop (off + (a.eval y).cells.toList.length)).take (r.n * r.sz) = xs.take off ++ (a.eval y).cells.toList ++ xs.drop (off + (a.eval y).cells.toList.length) := by
      have hzl' : (a.eval y).cells.toList.length = z.cells.length := by simpa using hzl
      rw [← htake]
      apply List.ext_getElem?
      intro j
      by_cases hj : j < r.n * r.sz
      · rw [List.getElem?_take_of_lt hj]
        by_cases j1 : j < off
        · rw [List.append_assoc, List.getElem?_append_left (by simp; omega), List.getElem?_take_of_lt j1, List.append_assoc, List.getElem?_append_left (by simp; omega), List.getElem?_take_of_lt j1, List.getElem?_take_of_lt hj]
        · have t1 : (cur.toList.take off).length = off := by simp; omega
          have t2 : ((cur.toList.take (r.n * r.sz)).take off).length = off := by simp; omega
          by_cases j2 : j < off + z.cells.length
          · rw [List.append_assoc, List.getElem?_append_right (by omega), List.getElem?_append_left (by omega), List.append_assoc, List.getElem?_append_right (by omega), List.getElem?_append_left (by omega), t1, t2]
          · rw [List.getElem?_append_right (by simp only [List.length_append, t1]; omega), List.getElem?_append_right (by simp only [List.length_append, t2]; omega), List.getElem?_drop, List.getElem?_drop]
            simp only [List.length_append, t1, t2, hzl']
            rw [List.getElem?_take_of_lt (by omega)]
      · rw [List.getElem?_eq_none (by simp; omega), List.getElem?_eq_none]
        simp only [List.length_append, List.length_take, List.length_drop, hzl']
        have : cur.toList.length = cap * r.sz := by simpa using hcs
        omega
    obtain ⟨A', hR'⟩ := hR.grown0 (i := i) (r := ⟨r.e, r.sz, r.v, r.n, splice r.ys off z.cells⟩) (w2 := w.setRow g (cur.toList.take off ++ (a.eval y).cells.toList ++ cur.toList.drop (off + (a.eval y).cells.toList.length)).toArray) (xs := xs.take off ++ (a.eval y).cells.toList ++ xs.drop (off + (a.eval y).cells.toList.length)) (some g) (fun g' hg' => by cases hg'; exact ⟨r, hi, by rw [hv]; rfl⟩) (hoth _)
      ⟨by simp [hzl]; have := hro.1; omega, .inr ⟨g, cap, _, hv, hbg, hrow, hnc, hcm, by simpa using hlen, by simpa using htk⟩⟩ (fun g' hg' => by rw [hv] at hg'; simp [Value.ownBlock] at hg'; exact .inl (by rw [hg'])) (hrl.splice hzc off hb) (fun q hq => by
        unfold splice at hq
        simp only [List.mem_append] at hq
        rcases hq with (h1 | h1) | h1
        · exact hrc q (List.mem_of_mem_take h1)
        · exact hc q h1
        · exact hrc q (List.mem_of_mem_drop h1))
    refine ⟨_, A', ?_, hR'⟩
    simp only [execOp, ho, Instr.storeAt, hp, Instr.sureAddr, Sem.run_bind, Sem.run_pure, Result.andThen_ok, hst]
end
end Go.Proofs.Ytpopeipcjpfbaaa
