/-
  My own texts, without what this claim does not need. My own text.
-/
import Derived.Laws.MakeOwn
import Derived.Laws.Slices
import Derived.Test.YtbcecodakfejaaaGreatSKeepsK4
set_option maxRecDepth 100000
set_option maxHeartbeats 64000000
set_option linter.unusedVariables false
set_option linter.unusedSimpArgs false
set_option linter.unusedSectionVars false
namespace Go.Proofs.YtbcecodakfejaaaGreat
open Go.RowKit
structure bG where
 e : Nat
 sz : Nat
 v : Value
 n : Nat
 aU : List AC
abbrev aI := Nat → Option bG
def eU : aI := fun _ => none
def bC (i : Nat) (r : bG) : aI := bI eU i r
def bx (R ay : aI) : Prop := ∀ i r, R i = some r → ay i = some r
theorem bx.refl (R : aI) : bx R R := fun _ _ h => h
theorem nt (f : aI) (i : Nat) (r : bG) : bx (bC i r) (bI f i r) := by
 intro j q h
 by_cases e : j = i
 ·subst e; rw [bC, cF] at h; rw [cF]; exact h
 ·rw [bC, ct _ _ e] at h; cases h
def j6 (v : Value) (off : Nat) : Value := match v with
 | .slice (some a) _ _ => .pointer (some (a.add off))
 | _ => .pointer none
def hy (v : Value) (z lo hi : Nat) : Value := match v with
 | .slice A _ c => sliced A lo hi c z
 | _ => v
def bG.own (r : bG) (b : Nat) : Prop := r.v.ownBlock = some b ∨ (r.sz = 0 ∧ ∃ S w, r.aU = [.p S] ∧ S.holds w r.v ∧ S.lu w r.v b)
def bG.ok (U : Nat → Prop) (ad : Nat → Nat) (w : World) (r : bG) : Prop :=
 (0 < r.sz ∧ ∃ xs, w.ownsRow 0 r.e r.sz r.v r.n xs ∧ bM U ad w r.aU xs) ∨ (r.sz = 0 ∧ r.n = 0 ∧ r.v.ownBlock = none ∧ (∃ S, r.aU = [.p S] ∧ S.holds w r.v) ∧ ∀ b, r.own b → b < w.heap.size)
theorem bG.pC {r : bG} {b : Nat} (h : r.own b) (hs : 0 < r.sz) : r.v.ownBlock = some b := by
 rcases h with h | ⟨h, _⟩
 ·exact h
 ·omega
theorem bG.ok.row {U : Nat → Prop} {ad : Nat → Nat} {w : World} {r : bG} (h : r.ok U ad w) (hs : 0 < r.sz) : ∃ xs, w.ownsRow 0 r.e r.sz r.v r.n xs ∧ bM U ad w r.aU xs := by
 rcases h with ⟨_, h⟩ | ⟨h, _⟩
 ·exact h
 ·omega
theorem bG.ok.pos {U : Nat → Prop} {ad : Nat → Nat} {w : World} {r : bG} (h : r.ok U ad w) (aw : 0 < r.n) : 0 < r.sz := by
 rcases h with ⟨h, _⟩ | ⟨_, h, _⟩
 ·exact h
 ·omega
theorem bG.ok.lt {U : Nat → Prop} {ad : Nat → Nat} {w : World} {r : bG} (h : r.ok U ad w) {g : Nat} (an : r.own g) : g < w.heap.size := by
 rcases h with ⟨hs, xs, az, _⟩ | ⟨_, _, _, _, h⟩
 ·exact (az.lt g (an.elim id fun h => by omega)).2
 ·exact h g an
theorem bG.ok.kept {U cR : Nat → Prop} {ad aX : Nat → Nat} {w w' : World} {r : bG} (h : r.ok U ad w) (aj : ∀ y ∈ r.aU, y.aZ = true) (af : ∀ g, r.own g → w'.heap[g]? = w.heap[g]?) (bH : w.heap.size ≤ w'.heap.size) (dx : ∀ b, U b → b < w.heap.size → cR b ∧ w'.heap[b]? = w.heap[b]?) : r.ok cR aX w' := by
 rcases h with ⟨hs, xs, az, hl⟩ | ⟨hs, aw, hv, ⟨S, hS, aR⟩, bb⟩
 ·exact .inl ⟨hs, xs, JP az fun g q => af g (.inl q), hl.map dx fun j x aa ae => absurd ae (AC.dC (aj x aa) j)⟩
 ·exact .inr ⟨hs, aw, hv, ⟨S, hS, (S.frame w w' r.v aR fun b ab => af b (.inr ⟨hs, S, w, hS, aR, ab⟩)).1⟩, fun b ab => qQ (bb b ab) bH⟩
structure vu (a8 : eL) (A : Nat → Prop) (s : aC) (ad : Nat → Nat) (w : World) (r : bG) : Prop where
 ok : r.ok (s.free A ad) ad w
 qh : ∀ y ∈ r.aU, y.aZ = true
 own : ∀ g, r.own g → ¬ A g ∧ ∀ k cs, s.mem k = some cs → ad k ≠ g
theorem vu.cells {a8 : eL} {A : Nat → Prop} {s : aC} {ad : Nat → Nat} {w : World} {r : bG} (h : vu a8 A s ad w r) (hs : 0 < r.sz) : ∃ xs, w.ownsRow 0 r.e r.sz r.v r.n xs ∧ bM (s.free A ad) ad w r.aU xs := h.ok.row hs
structure eD (a8 : eL) (bq : Nat → Prop) (R : aI) (s : aC) (a : Act) (w : World) (A : Nat → Prop) (ad : Nat → Nat) : Prop where
 up : ∀ b, a8.W.heap.size ≤ b → bq b
 sub : ∀ b, A b → bq b
 rel : Rel (lv a8 s ad w) A s ad a w
 px : ∀ k cs, s.mem k = some cs → ¬ a8.F (ad k)
 below : jr a8 w
 rows : ∀ i r, R i = some r → vu a8 A s ad w r
 apart : ∀ i j r q, R i = some r → R j = some q → i ≠ j → ∀ g, r.own g → ¬ q.own g
 hot : ∀ i r g, R i = some r → r.own g → ¬ a8.F g ∧ bq g
 j8 : sg a8 s ad
def p7 (a8 : eL) (bq : Nat → Prop) (R : aI) (s : aC) (a : Act) (w : World) : Prop := ∃ A ad, eD a8 bq R s a w A ad
section
variable {P : Program} {a8 : eL} {bq A : Nat → Prop} {R : aI} {s s' : aC} {a a' : Act} {w w' : World} {ad aX : Nat → Nat} {o bp bz : Oper} {ops : Array Oper}
theorem bM.xr {U cR : Nat → Prop} {xs : List AC} {vs : List Value} (h : bM U ad w xs vs) (aj : ∀ y ∈ xs, y.aZ = true) (dx : ∀ b, U b → b < w.heap.size → cR b ∧ w'.heap[b]? = w.heap[b]?) : bM cR aX w' xs vs :=
 h.map dx fun j x aa ae => absurd ae (AC.dC (aj x aa) j)
theorem eD.next (h : eD a8 bq R s a w A ad) (b6 : Rel (lv a8 s ad w) A s' aX a' w') : eD a8 bq R s' a' w' A aX := by
 have xK : ∀ k cs, s'.mem k = some cs → w.heap.size ≤ aX k ∨ ∃ j cs, s.mem j = some cs ∧ ad j = aX k := by
  intro k cs af;obtain ⟨_, _, _, _, hF⟩ := b6.dz k cs af;rcases gK (aX k) w.heap.size with hl | hl
  ·exact .inr (Classical.byContradiction fun aw => hF ⟨hl, fun j cs ae e => aw ⟨j, cs, ae, e⟩⟩)
  ·exact .inl hl
 have ke : ∀ b, s.free A ad b → b < w.heap.size → s'.free A aX b ∧ w'.heap[b]? = w.heap[b]? := fun b ab hl => by
  refine ⟨⟨ab.1, fun k cs af e => ?_⟩, b6.below.block b ⟨hl, fun k cs af => ab.2 k cs af⟩⟩;rcases xK k cs af with h1 | ⟨j, ar, ae, bm⟩
  ·omega
  ·exact ab.2 j ar ae (bm.trans e)
 refine ⟨h.up, h.sub, b6.hot fun b ab => b6.up b (ht b6.below.size ab), fun k cs af ap => ?_, ⟨b6.below.os.trans h.below.os, b6.below.tape.trans h.below.tape, b6.below.output.trans h.below.output, ht h.below.size b6.below.size, fun b ap => ?_⟩, fun i r hi => ?_, h.apart, h.hot, L4 h.j8 b6⟩
 ·rcases xK k cs af with h1 | ⟨j, ar, ae, e⟩
  ·have := a8.lt _ ap; have := h.below.size; omega
  ·rw [← e] at ap; exact h.px j ar ae ap
 ·exact (b6.below.block b ⟨qQ (a8.lt b ap) h.below.size, fun k cs af e => h.px k cs af (by rw [e]; exact ap)⟩).trans (h.below.block b ap)
 ·obtain ⟨l4, aj, an⟩ := h.rows i r hi;refine ⟨l4.kept aj (fun g q => b6.below.block g ⟨l4.lt q, (an g q).2⟩) b6.below.size ke, aj, fun g q => ⟨(an g q).1, fun k cs af he => ?_⟩⟩;rcases xK k cs af with h1 | ⟨j, ar, ae, e⟩
  ·have := l4.lt q; omega
  ·exact (an g q).2 j ar ae (e.trans he)
theorem eD.put {d : Option Nat} {av : ah} {v : Value} (h : eD a8 bq R s a w A ad) (hd : ∀ d', d = some d' → d' < s.n) (hv : de (s.free A ad) ad w av v) : eD a8 bq R (s.put d av) (a.put d v) w A ad := h.next (h.rel.put hd hv)
theorem eD.le {ay : aI} (h : eD a8 bq R s a w A ad) (l : bx ay R) : eD a8 bq ay s a w A ad :=
 ⟨h.up, h.sub, h.rel, h.px, h.below, fun i r hi => h.rows i r (l i r hi), fun i j r q hi ae => h.apart i j r q (l i r hi) (l j q ae), fun i r g hi => h.hot i r g (l i r hi), h.j8⟩
theorem eD.P6 (h : eD a8 bq R s a w A ad) (l : s.aK s') : eD a8 bq R s' a w A ad := h.next (h.rel.le l)
inductive li (P : Program) (R : aI) (look : Operand → Option ah) (o : Oper) : ah → Prop
 | len (i : Nat) (r : bG) (t z : Nat) (x : Operand) (hi : R i = some r) (bH : 0 < r.sz) (az : o.op = .call ⟨.builtin .len, #[x], #[t]⟩) (aa : look x = some (aQ r.v)) (aB : tB P t = some z) : li P R look o (ax r.n)
 | idx (i : Nat) (r : bG) (t : Nat) (x y : Operand) (hn : IntKind) (j : Int) (hi : R i = some r) (az : o.op = .indexAddr t x y) (aa : look x = some (aQ r.v)) (ai : look y = some (aQ (.int hn j))) (aA : 0 ≤ j) (h1 : j < r.n) (aB : tB P t = some r.sz) : li P R look o (aQ (j6 r.v (j.toNat * r.sz)))
 | ow (i : Nat) (r : bG) (off t f iK : Nat) (x : Operand) (hi : R i = some r) (aw : 0 < r.n) (az : o.op = .fieldAddr t x f) (aa : look x = some (aQ (j6 r.v off))) (aB : ud P t f = some iK) : li P R look o (aQ (j6 r.v (off + iK)))
 | load (i : Nat) (r : bG) (off lt : Nat) (x : Operand) (av : bA) (hi : R i = some r) (aw : 0 < r.n) (az : o.op = .load lt x) (aa : look x = some (aQ (j6 r.v off))) (hv : pick P lt r.aU off = some av) : li P R look o (.w av)
 | sl (i : Nat) (r : bG) (t lo hi : Nat) (x : Operand) (vf tF : Option Operand) (da : R i = some r) (bH : 0 < r.sz) (az : o.op = .slice t x vf tF none) (aa : look x = some (aQ r.v)) (hl : (vf = none ∧ lo = 0 ∧ tF ≠ none) ∨ ∃ y, vf = some y ∧ look y = some (aQ (.int .i64 lo))) (aR : (tF = none ∧ hi = r.n) ∨ ∃ y, tF = some y ∧ look y = some (aQ (.int .i64 hi))) (h1 : lo ≤ hi) (h2 : hi ≤ r.n) (aB : tB P t = some r.sz) : li P R look o (aQ (hy r.v r.sz lo hi))
 | AM (i : Nat) (r : bG) (t z lo hi : Nat) (x : Operand) (da : R i = some r) (bH : 0 < r.sz) (az : o.op = .call ⟨.builtin .len, #[x], #[t]⟩) (aa : look x = some (aQ (hy r.v r.sz lo hi))) (aB : tB P t = some z) : li P R look o (ax ((hi - lo : Nat) : Int))
 | Ax (i : Nat) (r : bG) (t lo hi : Nat) (x y : Operand) (hn : IntKind) (j : Int) (da : R i = some r) (az : o.op = .indexAddr t x y) (aa : look x = some (aQ (hy r.v r.sz lo hi))) (ai : look y = some (aQ (.int hn j))) (aA : 0 ≤ j) (h1 : j < ((hi - lo : Nat) : Int)) (h2 : hi ≤ r.n) (aB : tB P t = some r.sz) : li P R look o (aQ (j6 r.v ((lo + j.toNat) * r.sz)))
theorem li.congr {look gI : Operand → Option ah} {av : ah} (h : li P R look o av) (e : ∀ x ∈ o.op.operands, gI x = look x) : li P R gI o av := by
 cases h with
 | len i r t z x hi bH az aa aB => exact .len i r t z x hi bH az (by rw [e x (by simp [az, Op.operands, Call.operands])]; exact aa) aB
 | idx i r t x y hn j hi az aa ai aA h1 aB => exact .idx i r t x y hn j hi az (by rw [e x (by simp [az, Op.operands])]; exact aa) (by rw [e y (by simp [az, Op.operands])]; exact ai) aA h1 aB
 | ow i r off t f iK x hi aw az aa aB => exact .ow i r off t f iK x hi aw az (by rw [e x (by simp [az, Op.operands])]; exact aa) aB
 | load i r off lt x av hi aw az aa hv => exact .load i r off lt x av hi aw az (by rw [e x (by simp [az, Op.operands])]; exact aa) hv
 | sl i r t lo hi x vf tF da bH az aa hl aR h1 h2 aB =>
  refine .sl i r t lo hi x vf tF da bH az (by rw [e x (by simp [az, Op.operands])]; exact aa) ?_ ?_ h1 h2 aB
  ·rcases hl with h | ⟨y, rfl, h⟩
   ·exact .inl h
   ·exact .inr ⟨y, rfl, by rw [e y (by simp [az, Op.operands])]; exact h⟩
  ·rcases aR with h | ⟨y, rfl, h⟩
   ·exact .inl h
   ·exact .inr ⟨y, rfl, by rw [e y (by simp [az, Op.operands])]; exact h⟩
 | AM i r t z lo hi x da bH az aa aB => exact .AM i r t z lo hi x da bH az (by rw [e x (by simp [az, Op.operands, Call.operands])]; exact aa) aB
 | Ax i r t lo hi x y hn j da az aa ai aA h1 h2 aB => exact .Ax i r t lo hi x y hn j da az (by rw [e x (by simp [az, Op.operands])]; exact aa) (by rw [e y (by simp [az, Op.operands])]; exact ai) aA h1 h2 aB
theorem li.rows {ay : aI} {look : Operand → Option ah} {av : ah} (h : li P R look o av) (l : bx R ay) : li P ay look o av := by
 cases h with
 | len i r t z x hi bH az aa aB => exact .len i r t z x (l _ _ hi) bH az aa aB
 | idx i r t x y hn j hi az aa ai aA h1 aB => exact .idx i r t x y hn j (l _ _ hi) az aa ai aA h1 aB
 | ow i r off t f iK x hi aw az aa aB => exact .ow i r off t f iK x (l _ _ hi) aw az aa aB
 | load i r off lt x av hi aw az aa hv => exact .load i r off lt x av (l _ _ hi) aw az aa hv
 | sl i r t lo hi x vf tF da bH az aa hl aR h1 h2 aB => exact .sl i r t lo hi x vf tF (l _ _ da) bH az aa hl aR h1 h2 aB
 | AM i r t z lo hi x da bH az aa aB => exact .AM i r t z lo hi x (l _ _ da) bH az aa aB
 | Ax i r t lo hi x y hn j da az aa ai aA h1 h2 aB => exact .Ax i r t lo hi x y hn j (l _ _ da) az aa ai aA h1 h2 aB
theorem agh {U : Nat → Prop} {ty : TypeId} {aU : List AC} {off : Nat} {av : bA} {xs : List Value} {b : Addr} (hv : pick P ty aU off = some av) (hl : bM U ad w aU xs) (aj : ∀ j u, xs[j]? = some u → w.cell? (b.add j) = some u) :
  ∃ v, (loadVar ty (b.add off)).run P w = .ok v w ∧ gh U ad w av v := by
 unfold pick at hv
 have key : ∀ d, P.underlying ty = some d → ((∃ bi, d = .struct bi) ∨ ∃ n e, d = .array n e) → ((P.info? ty).bind fun i => if off + i.size ≤ aU.length then some (bA.agg ((aU.drop off).take i.size)) else none) = some av → ∃ v, (loadVar ty (b.add off)).run P w = .ok v w ∧ gh U ad w av v := by
  intro d hu hd h;cases hi : P.info? ty with
  | none => rw [hi] at h; cases h
  | some i =>
   rw [hi] at h;simp only [kU] at h
   split at h
   ·rename_i hle;cases h;have hs := hl.sub off i.size;have hlen : ((xs.drop off).take i.size).length = i.size := by have := hl.1; simp; omega
    refine ⟨_, Kl hu hd hi hlen (fun j v ae => ?_), _, rfl, hs⟩;have iu : j < i.size := by rw [← hlen]; exact (bL.1 ae).1
    rw [fJ iu, fY] at ae;rw [y7];exact aj _ v ae
   ·cases h
 have Jg : ∀ d, P.underlying ty = some d → (∀ bi, d ≠ .struct bi) → (∀ n e, d ≠ .array n e) → (aU[off]?).map bA.one = some av → ∃ v, (loadVar ty (b.add off)).run P w = .ok v w ∧ gh U ad w av v := by
  intro d hu h1 h2 h;cases aa : aU[off]? with
  | none => rw [aa] at h; cases h
  | some x =>
   rw [aa] at h;cases h;have bb : off < xs.length := by rw [← hl.1]; exact (bL.1 aa).1
   have hv := bN bb;exact ⟨_, Km hu h1 h2 (aj off _ hv), hl.2 off x _ aa hv⟩
 cases hu : P.underlying ty with
 | none => rw [hu] at hv; cases hv
 | some d =>
  rw [hu] at hv;cases d <;> first | exact key _ hu (.inl ⟨_, rfl⟩) hv | exact key _ hu (.inr ⟨_, _, rfl⟩) hv | exact Jg _ hu (fun _ h => by cases h) (fun _ _ h => by cases h) hv
theorem vu.slice {r : bG} (h : vu a8 A s ad w r) (bH : 0 < r.sz) : ∃ e3 c, r.v = .slice e3 r.n c ∧ (0 < r.n → ∃ g, e3 = some ⟨g, 0, none⟩) := by
 obtain ⟨xs, az, _⟩ := h.cells bH;rcases az.2 with ⟨e, dh⟩ | ⟨g, cap, cur, e, _⟩
 ·exact ⟨none, 0, by rw [e, dh], fun h => by omega⟩
 ·exact ⟨_, _, e, fun _ => ⟨g, rfl⟩⟩
theorem vu.FB {r : bG} (h : vu a8 A s ad w r) (bH : 0 < r.sz) : ∃ e3 c, r.v = .slice e3 r.n c ∧ r.n ≤ c ∧ (0 < r.n → ∃ g, e3 = some ⟨g, 0, none⟩) := by
 obtain ⟨xs, az, _⟩ := h.cells bH;rcases az.2 with ⟨e, dh⟩ | ⟨g, cap, cur, e, _, _, ez, _⟩
 ·exact ⟨none, 0, by rw [e, dh], by omega, fun h => by omega⟩
 ·exact ⟨_, _, e, ez, fun _ => ⟨g, rfl⟩⟩
theorem S1 {g n c z lo hi : Nat} (h1 : lo < hi) (h2 : hi ≤ c) : hy (.slice (some ⟨g, 0, none⟩) n c) z lo hi = .slice (some ((⟨g, 0, none⟩ : Addr).add (lo * z))) (hi - lo) (c - lo) := by
 unfold hy sliced;simp only;rw [if_neg (by omega)]; rfl
theorem li.sound {av : ah} (h : li P R s.look o av) (aq : eD a8 bq R s a w A ad) : ∃ v, (execOp a.eval o).run P w = .ok (.value v) w ∧ de (s.free A ad) ad w av v := by
 cases h with
 | len i r t z x hi bH az aa aB =>
  obtain ⟨e3, c, e, _⟩ := (aq.rows i r hi).slice bH;have hv : a.eval x = r.v := (aq.rel.look aa).1;obtain ⟨el, eJ, hu, _, _⟩ := nu aB;have fc : P.underlying t = some (.slice (P.elem t)) := by rw [k3 hu]; exact hu
  refine ⟨.int .i64 r.n, ?_, rfl, rfl⟩;have em : (#[x] : Array Operand).map a.eval = #[.slice e3 r.n c] := by simp [hv, e]
  simp only [execOp, az, resolve, em, Sem.run_bind, Sem.run_pure, Result.andThen_ok, invoke, builtin];rw [run_len_slice w t _ e3 r.n c fc];rfl
 | idx i r t x y hn j hi az aa ai aA h1 aB =>
  obtain ⟨e3, c, e, dn⟩ := (aq.rows i r hi).slice ((aq.rows i r hi).ok.pos (by omega));obtain ⟨g, rfl⟩ := dn (by omega);have hv : a.eval x = r.v := (aq.rel.look aa).1;have ae : a.eval y = .int hn j := (aq.rel.look ai).1;obtain ⟨el, eJ, hu, da, hs⟩ := nu aB;refine ⟨j6 r.v (j.toNat * r.sz), ?_, rfl, by rw [e]; rfl⟩;rw [e] at hv ⊢;simp only [execOp, az, Instr.indexAt, hv, ae, asIntOf, Sem.run_bind, Sem.run_pure, Result.andThen_ok, run_underlying hu, h5 da, if_pos (And.intro aA h1), hs, j6]
 | ow i r off t f iK x hi aw az aa aB =>
  obtain ⟨e3, c, e, dn⟩ := (aq.rows i r hi).slice ((aq.rows i r hi).ok.pos (by omega));obtain ⟨g, rfl⟩ := dn aw;have hv : a.eval x = j6 r.v off := (aq.rel.look aa).1;rw [e] at hv ⊢;unfold ud at aB
  split at aB
  ·rename_i bi hu;cases ap : bi[f]? with
   | none => rw [ap] at aB; cases aB
   | some fd =>
    rw [ap] at aB;simp only [kU] at aB;cases hi : P.info? fd.type with
    | none => rw [hi] at aB; cases aB
    | some eJ =>
     rw [hi] at aB;simp only [kU] at aB
     split at aB
     ·cases aB
     ·rename_i b7;cases aB;refine ⟨_, ?_, rfl, rfl⟩;simp only [execOp, az, Instr.fieldAt, hv, j6, Instr.sureAddr, Sem.run_bind, Sem.run_pure, Result.andThen_ok, run_underlying hu, ap, fieldPlace, h5 hi, if_neg b7, y7]
  ·cases aB
 | load i r off lt x av hi aw az aa hv =>
  have c9 := aq.rows i r hi;obtain ⟨e3, c, e, dn⟩ := c9.slice (c9.ok.pos aw);obtain ⟨g, rfl⟩ := dn aw;have DR : a.eval x = j6 r.v off := (aq.rel.look aa).1;obtain ⟨xs, hG, hl⟩ := c9.cells (c9.ok.pos aw);obtain ⟨v, h1, h2⟩ := agh hv hl (hG.cells (g := g) (by rw [e]; rfl));rw [e] at DR;refine ⟨v, ?_, h2⟩;simp only [execOp, az, Instr.loadAt, DR, j6, Instr.sureAddr, Sem.run_bind, Sem.run_pure, Result.andThen_ok, h1]
 | sl i r t lo hi x vf tF da bH az aa hl aR h1 h2 aB =>
  obtain ⟨e3, c, e, ez, _⟩ := (aq.rows i r da).FB bH;have hv : a.eval x = r.v := (aq.rel.look aa).1;rw [e] at hv;obtain ⟨el, eJ, hu, fb, hs⟩ := nu aB;have fc : P.underlying t = some (.slice (P.elem t)) := by rw [k3 hu]; exact hu
  have kK : (hy r.v r.sz lo hi).oneCell' = true := by rw [e]; rfl
  refine ⟨_, ?_, rfl, kK⟩;rw [e];rcases hl with ⟨rfl, rfl, b7⟩ | ⟨y, rfl, ai⟩
  ·rcases aR with ⟨rfl, _⟩ | ⟨y, rfl, ai⟩
   ·exact absurd rfl b7
   ·have k4 : a.eval y = .int .i64 hi := (aq.rel.look ai).1;simp only [execOp, az, hv, hr, ts, k4, Sem.run_bind, run_sliceAt_slice w t _ _ _ _ fc, run_slice_h w t e3 r.n c fc .i64 hi (by omega) (by omega), k3 hu, h5 fb, Result.andThen_ok, hs, Sem.run_pure, ld, hy]
  ·have k4 : a.eval y = .int .i64 lo := (aq.rel.look ai).1;rcases aR with ⟨rfl, rfl⟩ | ⟨y', rfl, IW⟩
   ·simp only [execOp, az, hv, hr, ts, k4, Sem.run_bind, run_sliceAt_slice w t _ _ _ _ fc, run_slice_l w t e3 r.n c fc .i64 lo (by omega) (by omega), k3 hu, h5 fb, Result.andThen_ok, hs, Sem.run_pure, ld, hy]
   ·have Yx : a.eval y' = .int .i64 hi := (aq.rel.look IW).1;simp only [execOp, az, hv, hr, ts, k4, Yx, Sem.run_bind, run_sliceAt_slice w t _ _ _ _ fc, run_slice_lh w t e3 r.n c fc .i64 .i64 lo hi (by omega) (by omega) (by omega), k3 hu, h5 fb, Result.andThen_ok, hs, Sem.run_pure, ld, hy]
 | AM i r t z lo hi x da bH az aa aB =>
  obtain ⟨e3, c, e, _, _⟩ := (aq.rows i r da).FB bH;have hv : a.eval x = hy r.v r.sz lo hi := (aq.rel.look aa).1;obtain ⟨el, eJ, hu, _, _⟩ := nu aB;have fc : P.underlying t = some (.slice (P.elem t)) := by rw [k3 hu]; exact hu
  refine ⟨.int .i64 ((hi - lo : Nat) : Int), ?_, rfl, rfl⟩;rw [e] at hv;unfold hy sliced at hv;simp only at hv;have em : (#[x] : Array Operand).map a.eval = #[.slice (if c = lo then e3 else e3.map (·.add (lo * r.sz))) (hi - lo) (c - lo)] := by simp only [List.map_toArray, jJ, List.map_nil, hv]
  simp only [execOp, az, resolve, em, Sem.run_bind, Sem.run_pure, Result.andThen_ok, invoke, builtin];rw [run_len_slice w t _ _ _ _ fc];rfl
 | Ax i r t lo hi x y hn j da az aa ai aA h1 h2 aB =>
  obtain ⟨e3, c, e, ez, dn⟩ := (aq.rows i r da).FB ((aq.rows i r da).ok.pos (by omega));obtain ⟨g, rfl⟩ := dn (by omega);have hv : a.eval x = hy r.v r.sz lo hi := (aq.rel.look aa).1;have ae : a.eval y = .int hn j := (aq.rel.look ai).1;obtain ⟨el, eJ, hu, fb, hs⟩ := nu aB;rw [e, S1 (by omega) (by omega)] at hv;refine ⟨j6 r.v ((lo + j.toNat) * r.sz), ?_, rfl, by rw [e]; rfl⟩;rw [e];simp only [execOp, az, Instr.indexAt, hv, ae, asIntOf, Sem.run_bind, Sem.run_pure, Result.andThen_ok, run_underlying hu, h5 fb, if_pos (And.intro aA h1), hs, j6, y7, kS]
theorem ahz (w : World) (tX Bs ty elem : TypeId) (g o rz zk z : Nat) (a : Addr) (r9 Br : Nat) (cur : Array Value) (t : TypeId) (cs : List Value)
  (hu : P.underlying tX = some (.slice elem)) (hs : (P.info? elem).map (·.size) = some z)
  (an : w.heap[g]? = some (.cells cur t (0, 0))) (aw : cs.length = Nat.min r9 rz * z)
  (II : ∀ j v, cs[j]? = some v → w.cell? (a.add j) = some v) (xO : o + cs.length ≤ cur.size) (h1 : ∀ v ∈ cs, v.oneCell' = true) :
  (Builtin.copy_ #[tX, Bs] ty #[.slice (some ⟨g, o, none⟩) rz zk, .slice (some a) r9 Br]).run P w =
   .ok (goInt (Nat.min r9 rz)) (w.setRow g (cur.toList.take o ++ cs ++ cur.toList.drop (o + cs.length)).toArray) := by
 have hl := run_loadCells_list (P := P) w a cs II;have kj := run_storeCells_at P g o t cs 0 cur w an (by simpa using xO) h1;cases ak : P.info? elem with
 | none => simp [ak] at hs
 | some i =>
  have hi : i.size = z := by simpa [ak] using hs
  simp [Builtin.copy_, run_underlying hu, Builtin.lenOf, Builtin.firstCells, sizeOf, typeInfo, ak, hi, ← aw, hl, kj]
theorem ahy (w : World) (tX Bs ty elem : TypeId) (d a : Option Addr) (rz zk r9 Br z : Nat) (hu : P.underlying tX = some (.slice elem)) (hs : (P.info? elem).map (·.size) = some z) (aw : Nat.min r9 rz = 0) :
  (Builtin.copy_ #[tX, Bs] ty #[.slice d rz zk, .slice a r9 Br]).run P w = .ok (goInt 0) w := by
 cases ak : P.info? elem with
 | none => simp [ak] at hs
 | some i =>
  have hl : ∀ (x : Addr), (loadCells x 0).run P w = .ok #[] w := fun x => by simpa using run_loadCells_list (P := P) w x [] (by simp)
  cases d <;> cases a <;> simp [Builtin.copy_, run_underlying hu, Builtin.lenOf, Builtin.firstCells, sizeOf, typeInfo, ak, aw, storeCells, hl]
theorem aiK {cur us : List Value} {off N : Nat} (h : off + us.length ≤ N) (eO : N ≤ cur.length) : (cur.take off ++ us ++ cur.drop (off + us.length)).take N = (cur.take N).take off ++ us ++ (cur.take N).drop (off + us.length) := by
 apply List.ext_getElem?;intro j;have t1 : (cur.take off).length = off := by rw [ei]; omega
 have t2 : ((cur.take N).take off).length = off := by rw [ei, ei]; omega
 by_cases ae : j < N
 ·rw [fJ ae]
  by_cases rT : j < off
  ·rw [hK, fZ (by rw [t1]; exact rT), fJ rT, hK, fZ (by rw [t2]; exact rT), fJ rT, fJ ae]
  ·by_cases DZ : j < off + us.length
   ·rw [hK, gM (by omega), fZ (by omega), hK, gM (by omega), fZ (by omega), t1, t2]
   ·rw [gM (by simp only [cO, t1]; omega), gM (by simp only [cO, t2]; omega), fY, fY];simp only [cO, t1, t2];rw [fJ (by omega)]
 ·rw [lJ (by rw [ei]; omega), lJ];simp only [cO, ei, iC];omega
abbrev Cb : Value → Prop := fun v => v.oneCell' = true
def jx (v : Value) (z lo hi : Nat) (u : Value) : Prop := (∃ e3 c, u = .slice e3 (hi - lo) c) ∧ (lo < hi → ∃ g n c, v = .slice (some ⟨g, 0, none⟩) n c ∧ hi ≤ c ∧ u = .slice (some ⟨g, lo * z, none⟩) (hi - lo) (c - lo))
theorem Cm (g o k : Nat) : (⟨g, o, none⟩ : Addr).add k = ⟨g, o + k, none⟩ := by unfold Addr.add; split <;> simp_all
theorem jx.all {A : Option Addr} {n c : Nat} (z : Nat) (h1 : n ≤ c) (h2 : 0 < n → ∃ g, A = some ⟨g, 0, none⟩) : jx (.slice A n c) z 0 n (.slice A n c) :=
 ⟨⟨A, c, rfl⟩, fun h => by obtain ⟨g, rfl⟩ := h2 h; exact ⟨g, n, c, rfl, h1, by simp⟩⟩
theorem jx.sl {v u : Value} {z lo hi k m : Nat} (h : jx v z lo hi u) (hm : hi - lo = m) (af : k ≤ m) (hl : lo ≤ hi) : jx v z (lo + k) hi (hy u z k m) := by
 subst hm;obtain ⟨⟨e3, c, e⟩, h2⟩ := h;refine ⟨⟨_, _, by rw [e]; unfold hy sliced; rw [Nat.sub_sub]⟩, fun bb => ?_⟩;obtain ⟨g, n, c', aG, h3, aO⟩ := h2 (by omega);refine ⟨g, n, c', aG, h3, ?_⟩;rw [aO];unfold hy sliced;simp only;rw [if_neg (by omega), hr, Cm, Nat.sub_sub, Nat.sub_sub, kS]
theorem jx.aik {v u : Value} {z lo hi k : Nat} (h : jx v z lo hi u) (af : lo + k ≤ hi) : jx v z lo (lo + k) (hy u z 0 k) := by
 obtain ⟨⟨e3, c, e⟩, h2⟩ := h;refine ⟨⟨_, _, by rw [e]; unfold hy sliced; rw [show lo + k - lo = k - 0 by omega]⟩, fun bb => ?_⟩;obtain ⟨g, n, c', aG, h3, aO⟩ := h2 (by omega);refine ⟨g, n, c', aG, by omega, ?_⟩;rw [aO];unfold hy sliced;simp only;rw [if_neg (by omega), hr, Cm];simp
def BU (R : aI) (look : Operand → Option ah) (y : Operand) (z m : Nat) (news : List AC) : Prop :=
 look y = some (cK z m news) ∨ ∃ j q lo u, R j = some q ∧ q.sz = z ∧ look y = some (aQ u) ∧ jx q.v z lo (lo + m) u ∧ lo + m ≤ q.n ∧ news = (q.aU.drop (lo * z)).take (m * z)
inductive lj (P : Program) (R : aI) (look : Operand → Option ah) (o : Oper) : (Value → aI) → (Value → Prop) → Prop
 | ru (i : Nat) (r : bG) (tt bytes m : Nat) (fK eR : Operand) (news : List AC) (hi : R i = some r) (az : o.op = .call ⟨.builtin .append, #[fK, eR], #[tt, tt]⟩) (aB : wO P tt r.e r.sz bytes = true) (aa : look fK = some (aQ r.v)) (ai : look eR = some (cK r.sz m news)) (h1 : r.n + m ≤ maxLen) (h2 : (r.n + m) * bytes ≤ 140737488355328) (aj : ∀ y ∈ news, y.aZ = true) :
   lj P R look o (fun v' => bI R i ⟨r.e, r.sz, v', r.n + m, r.aU ++ news⟩) Cb
 | new (i t n e sz bytes : Nat) (parts : List (Nat × Operand)) (vs : List Value) (zs : List (Nat × bA)) (r : List AC) (hi : R i = none) (az : o.op = .buildSlice t n parts.toArray) (aB : wO P t e sz bytes = true) (dY : yv P t = some vs) (aN : nj look parts = some zs) (ab : qf (wM n sz) (h8 n sz vs) zs = some r)
   (h1 : (vs.all fun v => v.oneCell') = true) (hs : vs.length = sz) (h2 : n * sz ≤ 16777216) (h3 : n ≤ maxLen) (al : r.length = n * sz) (c4 : ∀ y ∈ r, y.aZ = true) : lj P R look o (fun v' => bI R i ⟨e, sz, v', n, r⟩) Cb
 | make (i t l c e sz bytes : Nat) (x y : Operand) (pv l9 : IntKind) (vs : List Value) (hi : R i = none) (az : o.op = .makeSlice t x y) (aB : wO P t e sz bytes = true) (dY : yv P t = some vs) (aa : look x = some (aQ (.int pv l))) (ai : look y = some (aQ (.int l9 c))) (hl : l ≤ c) (h1 : (vs.all fun v => v.oneCell') = true) (hs : vs.length = sz) (h2 : bytes * c ≤ 281474976710656) (h3 : c ≤ maxLen) : lj P R look o (fun v' => bI R i ⟨e, sz, v', l, h8 l sz vs⟩) Cb
 | copy (i : Nat) (r : bG) (tt t2 m lo hi : Nat) (x y : Operand) (news : List AC) (da : R i = some r) (bH : 0 < r.sz) (az : o.op = .call ⟨.builtin .copy, #[x, y], #[tt, t2]⟩) (aB : tB P tt = some r.sz) (aa : (look x = some (aQ r.v) ∧ lo = 0 ∧ hi = r.n) ∨ look x = some (aQ (hy r.v r.sz lo hi)) ∨ ∃ u, look x = some (aQ u) ∧ jx r.v r.sz lo hi u) (ai : BU R look y r.sz m news) (h1 : lo ≤ hi) (h2 : hi ≤ r.n) (aj : ∀ y ∈ news, y.aZ = true) :
   lj P R look o (fun _ => bI R i ⟨r.e, r.sz, r.v, r.n, eI r.aU (lo * r.sz) (news.take (Nat.min m (hi - lo) * r.sz))⟩) (fun v' => v' = .int .i64 ((Nat.min m (hi - lo) : Nat) : Int))
theorem Qc {look gI : Operand → Option ah} : ∀ (parts : List (Nat × Operand)), (∀ p ∈ parts, gI p.2 = look p.2) → nj gI parts = nj look parts
 | [], _ => rfl
 | (i, x) :: parts, h => by
  simp only [nj];rw [h (i, x) (by simp), Qc parts fun p hp => h p (by simp [hp])]
theorem lj.congr {look gI : Operand → Option ah} {f : Value → aI} {jg : Value → Prop} (h : lj P R look o f jg) (e : ∀ x ∈ o.op.operands, gI x = look x) : lj P R gI o f jg := by
 cases h with
 | ru i r tt bytes m fK eR news hi az aB aa ai h1 h2 aj =>
  exact .ru i r tt bytes m fK eR news hi az aB (by rw [e fK (by simp [az, Op.operands, Call.operands])]; exact aa) (by rw [e eR (by simp [az, Op.operands, Call.operands])]; exact ai) h1 h2 aj
 | new i t n el sz bytes parts vs zs r hi az aB dY aN ab h1 hs h2 h3 al c4 =>
  refine .new i t n el sz bytes parts vs zs r hi az aB dY ?_ ab h1 hs h2 h3 al c4;rw [Qc parts fun p hp => e p.2 ?_]
  ·exact aN
  ·simp only [az, Op.operands, List.mem_toArray, gV];exact ⟨p, hp, rfl⟩
 | make i t l c el sz bytes x y pv l9 vs hi az aB dY aa ai hl h1 hs h2 h3 =>
  exact .make i t l c el sz bytes x y pv l9 vs hi az aB dY (by rw [e x (by simp [az, Op.operands])]; exact aa) (by rw [e y (by simp [az, Op.operands])]; exact ai) hl h1 hs h2 h3
 | copy i r tt t2 m lo hi x y news da bH az aB aa ai h1 h2 aj =>
  exact .copy i r tt t2 m lo hi x y news da bH az aB (by rw [e x (by simp [az, Op.operands, Call.operands])]; exact aa) (by unfold BU; rw [e y (by simp [az, Op.operands, Call.operands])]; exact ai) h1 h2 aj
theorem bM.append {U : Nat → Prop} {xs aU : List AC} {vs us : List Value} (h : bM U ad w xs vs) (k : bM U ad w aU us) : bM U ad w (xs ++ aU) (vs ++ us) := by
 refine ⟨by rw [cO, cO, h.1, k.1], fun i x v aa hv => ?_⟩;rcases gK i xs.length with hl | hl
 ·rw [fZ hl] at aa;rw [fZ (by rw [← h.1]; exact hl)] at hv;exact h.2 i x v aa hv
 ·rw [gM hl] at aa;rw [gM (by rw [← h.1]; exact hl), ← h.1] at hv;exact k.2 _ x v aa hv
theorem eD.HB {i : Nat} {r : bG} {w2 : World} {xs : List Value} (h : eD a8 bq R s a w A ad) (iR : Option Nat) (hold : ∀ g, iR = some g → ∃ q, R i = some q ∧ q.own g) (bH : 0 < r.sz) (gA : w.grownBy w2 iR)
  (al : w2.ownsRow 0 r.e r.sz r.v r.n xs) (kG : ∀ g, r.v.ownBlock = some g → iR = some g ∨ w.heap.size ≤ g) (hl : bM (s.free A ad) ad w r.aU xs) (aj : ∀ y ∈ r.aU, y.aZ = true) :
  ∃ ea, eD a8 bq (bI R i r) s a w2 ea ad := by
 have qz : ∀ b, s.free A ad b → b < w.heap.size → w2.heap[b]? = w.heap[b]? := fun b ab e6 => gA.block b e6 fun e => by
  obtain ⟨q, ak, an⟩ := hold b e.symm;exact ((h.rows i q ak).own b an).1 ab.1
 have nO : ∀ k cs, s.mem k = some cs → w2.heap[ad k]? = w.heap[ad k]? := fun k cs af => gA.block _ (h.rel.lt af) fun e => by
  obtain ⟨q, ak, an⟩ := hold _ e.symm;exact ((h.rows i q ak).own _ an).2 k cs af rfl
 have zz : Rel (lv a8 s ad w2) (fun b => (A b ∧ b < w.heap.size) ∨ (w2.heap.size ≤ b)) s ad a w2 :=
  h.rel.vz (fun b cL e6 => ⟨.inl ⟨cL, e6⟩, gA.block b e6 fun e => by
   obtain ⟨q, ak, an⟩ := hold b e.symm;exact ((h.rows i q ak).own b an).1 cL⟩) (fun k cs af => ⟨nO k cs af, fun ap => ap.2 k cs af rfl⟩) (jr.refl _) (fun b ab => .inr ab) (vQ _ _ _)
 have ke : ∀ b, s.free A ad b → b < w.heap.size → s.free (fun b => (A b ∧ b < w.heap.size) ∨ w2.heap.size ≤ b) ad b ∧ w2.heap[b]? = w.heap[b]? := fun b ab e6 => ⟨⟨.inl ⟨ab.1, e6⟩, ab.2⟩, qz b ab e6⟩
 have main : eD a8 bq (bI R i r) s a w2 (fun b => (A b ∧ b < w.heap.size) ∨ w2.heap.size ≤ b) ad := by
  refine ⟨h.up, ?_, zz, h.px, ⟨gA.os.trans h.below.os, gA.tape.trans h.below.tape, gA.output.trans h.below.output, ht h.below.size gA.size, fun b ap => ?_⟩, fun j q ae => ?_, fun j k q cf ae af k7 g an => ?_, fun j q g ae an => ?_, h.j8⟩
  ·rintro b (ab | ab)
   ·exact h.sub b ab.1
   ·exact h.up b (by have := h.below.size; have := gA.size; omega)
  ·refine (gA.block b (qQ (a8.lt b ap) h.below.size) fun e => ?_).trans (h.below.block b ap);obtain ⟨q, ak, an⟩ := hold b e.symm;exact (h.hot i q b ak an).1 ap
  ·by_cases e : j = i
   ·subst e;rw [cF] at ae;cases ae;refine ⟨.inl ⟨bH, xs, al, hl.xr aj ke⟩, aj, fun g an => ?_⟩
    replace an := bG.pC an bH
    refine ⟨?_, fun k cs af => ?_⟩
    ·rintro (ab | ab)
     ·rcases kG g an with q | q
      ·obtain ⟨p, hp, qB⟩ := hold g q;exact ((h.rows j p hp).own g qB).1 ab.1
      ·omega
     ·have := (al.lt g an).2; omega
    ·rcases kG g an with q | q
     ·obtain ⟨p, hp, qB⟩ := hold g q;exact ((h.rows j p hp).own g qB).2 k cs af
     ·have := h.rel.lt af; omega
   ·rw [ct _ _ e] at ae;obtain ⟨l4, Pl, Pm⟩ := h.rows j q ae;refine ⟨l4.kept Pl (fun g an => gA.block g (l4.lt an) fun bm => ?_) gA.size ke, Pl, fun g an => ⟨?_, (Pm g an).2⟩⟩
    ·obtain ⟨p, hp, qB⟩ := hold g bm.symm;exact h.apart j i q p ae hp e g an qB
    ·rintro (ab | ab)
     ·exact (Pm g an).1 ab.1
     ·have := l4.lt an; have := gA.size; omega
  ·have Rk : ∀ j q, R j = some q → ∀ g, q.own g → g < w.heap.size := fun j q ae g an => (h.rows j q ae).ok.lt an
   by_cases e : j = i
   ·subst e;rw [cF] at ae;cases ae;rw [ct _ _ (Ne.symm k7)] at af;intro ec;rcases kG g (bG.pC an bH) with p | p
    ·obtain ⟨e1, hp, qB⟩ := hold g p;exact h.apart j k e1 cf hp af k7 g qB ec
    ·have := Rk k cf af g ec; omega
   ·rw [ct _ _ e] at ae
    by_cases aO : k = i
    ·subst aO;rw [cF] at af;cases af;intro ec;rcases kG g (bG.pC ec bH) with p | p
     ·obtain ⟨e1, hp, qB⟩ := hold g p;exact h.apart j k q e1 ae hp k7 g an qB
     ·have := Rk j q ae g an; omega
    ·rw [ct _ _ aO] at af;exact h.apart j k q cf ae af k7 g an
  ·by_cases e : j = i
   ·subst e;rw [cF] at ae;cases ae;rcases kG g (bG.pC an bH) with p | p
    ·obtain ⟨e1, hp, qB⟩ := hold g p;exact h.hot j e1 g hp qB
    ·exact ⟨fun ap => by have := a8.lt g ap; have := h.below.size; omega, h.up g (by have := h.below.size; omega)⟩
   ·rw [ct _ _ e] at ae;exact h.hot j q g ae an
 exact ⟨_, main⟩
theorem eD.grown {i : Nat} {r : bG} {w2 : World} {xs : List Value} (h : eD a8 bq R s a w A ad) (iR : Option Nat) (hold : ∀ g, iR = some g → ∃ q, R i = some q ∧ q.own g) (bH : 0 < r.sz) (gA : w.grownBy w2 iR) (kK : r.v.oneCell' = true)
  (al : w2.ownsRow 0 r.e r.sz r.v r.n xs) (kG : ∀ g, r.v.ownBlock = some g → iR = some g ∨ w.heap.size ≤ g) (hl : bM (s.free A ad) ad w r.aU xs) (aj : ∀ y ∈ r.aU, y.aZ = true) {d : Nat} (hd : d < s.n) :
  ∃ ea, eD a8 bq (bI R i r) (s.put (some d) (aQ r.v)) (a.put (some d) r.v) w2 ea ad := by
 obtain ⟨ea, main⟩ := h.HB iR hold bH gA al kG hl aj;exact ⟨ea, main.put (d := some d) (fun d' e => by cases e; exact hd) ⟨rfl, kK⟩⟩
theorem cM.GX {U : Nat → Prop} {z n : Nat} {xs : List AC} {v : Value} (h : de U ad w (cK z n xs) v) (aw : 0 < n) : ∃ b c vs, v = .slice (some b) n c ∧ n ≤ c ∧ xs.length = n * z ∧ (∀ (j : Nat) u, vs[j]? = some u → w.cell? (b.add j) = some u) ∧ bM U ad w xs vs := by
 obtain ⟨⟨e3, c, e, aj, hl, dn⟩, dx⟩ := h;obtain ⟨b, vs, rfl, eb⟩ := dn aw;exact ⟨b, c, vs, e, aj, hl, eb.at_, eb.Ki fun bE cL => dx bE ⟨c, b, e, aw, cL⟩⟩
theorem BU.spec {y : Operand} {z m : Nat} {news : List AC} (h : BU R s.look y z m news) (aN : 0 < z) (aq : eD a8 bq R s a w A ad) : (∃ si vF, a.eval y = .slice si m vF) ∧ news.length = m * z ∧
  (0 < m → ∃ b c vs, a.eval y = .slice (some b) m c ∧ (∀ (j : Nat) u, vs[j]? = some u → w.cell? (b.add j) = some u) ∧ bM (s.free A ad) ad w news vs) := by
 rcases h with ai | ⟨j, q, lo, u, ae, rfl, ai, ⟨⟨e3, c, sJ⟩, hu⟩, aw, rfl⟩
 ·have At := aq.rel.look ai;obtain ⟨⟨si, vF, ex, zJ, kf, HE⟩, Oy⟩ := id At;refine ⟨⟨si, vF, ex⟩, kf, fun hm => ?_⟩;obtain ⟨b, c, vs, mu, _, _, gQ, qC⟩ := cM.GX At hm;exact ⟨b, c, vs, mu, gQ, qC⟩
 ·have mu : a.eval y = u := (aq.rel.look ai).1;obtain ⟨xs, az, hl⟩ := (aq.rows j q ae).cells aN;have akL : q.aU.length = q.n * q.sz := by rw [hl.1]; exact az.1
  have xO : lo * q.sz + m * q.sz ≤ q.n * q.sz := by rw [← kS]; exact kT _ aw
  refine ⟨⟨e3, c, by rw [mu, sJ, Nat.add_sub_cancel_left]⟩, by rw [ei, iC]; omega, fun hm => ?_⟩;obtain ⟨g, n', c', aG, h3, aO⟩ := hu (by omega);refine ⟨⟨g, lo * q.sz, none⟩, _, (xs.drop (lo * q.sz)).take (m * q.sz), by rw [mu, aO, Nat.add_sub_cancel_left], fun i x aa => ?_, hl.sub _ _⟩
  have hi : i < m * q.sz := by
   have := (bL.1 aa).1;rw [ei] at this;omega
  rw [fJ hi, fY] at aa;have := az.cells (g := g) (by rw [aG]; rfl) _ x aa;rw [Cm] at this ⊢;simpa using this
theorem lj.out {f : Value → aI} {jg : Value → Prop} (h : lj P R s.look o f jg) : ∃ v', jg v' := by
 cases h with
 | copy => exact ⟨_, rfl⟩
 | _ => exact ⟨.bool false, rfl⟩
theorem lj.sound {f : Value → aI} {jg : Value → Prop} {d : Nat} (h : lj P R s.look o f jg) (aq : eD a8 bq R s a w A ad) (hd : d < s.n) : ∃ v' w2 ea, (execOp a.eval o).run P w = .ok (.value v') w2 ∧ jg v' ∧ eD a8 bq (f v') (s.put (some d) (aQ v')) (a.put (some d) v') w2 ea ad := by
 cases h with
 | ru i r tt bytes m fK eR news hi az aB aa ai h1 h2 aj =>
  obtain ⟨eJ, z, hu, fb, aN, hj, kH, nV, bH⟩ := qW aB;obtain ⟨pn, oB, xY⟩ := aq.rows i r hi;obtain ⟨xs, jD, ki⟩ := pn.row bH;have hk : a.eval fK = r.v := (aq.rel.look aa).1;have Ar : r.v.oneCell' = true := (aq.rel.look aa).2;have At := aq.rel.look ai;rcases tq m with rfl | vX
  ·obtain ⟨⟨si, vF, ex, zJ, kf, HE⟩, Oy⟩ := At;have kJ : news = [] := by simpa using kf
   subst kJ;refine ⟨r.v, w, A, ?_, Ar, ?_⟩
   ·rw [show (execOp a.eval o) = (do pure (.value (← Builtin.append_ #[tt, tt] o.type #[a.eval fK, a.eval eR])) : Sem Next) by
     simp only [execOp, az, resolve, invoke, builtin, List.map_toArray, jJ, List.map_nil];rfl]
    simp only [Sem.run_bind];rw [hk, ex]
    obtain ⟨e3, cap, hv, ez⟩ : ∃ e3 cap, r.v = .slice e3 r.n cap ∧ r.n ≤ cap := by
     rcases jD.2 with ⟨e, dh⟩ | ⟨g, cap, cur, hv, nJ, qw, ez, _⟩
     ·exact ⟨none, 0, by rw [e, dh], by omega⟩
     ·exact ⟨_, cap, hv, ez⟩
    rw [hv];cases e3 with
    | none =>
     cases si with
     | none => simp [Builtin.append_, run_underlying hu, sizeOf, typeInfo, fb, Builtin.lenOf, Builtin.firstCells, ez, storeCells]
     | some Cv => simp [Builtin.append_, run_underlying hu, sizeOf, typeInfo, fb, Builtin.lenOf, Builtin.firstCells, ez, storeCells, loadCells, loadCellsFrom]
    | some ajB =>
     cases si with
     | none => simp [Builtin.append_, run_underlying hu, sizeOf, typeInfo, fb, Builtin.lenOf, Builtin.firstCells, ez, storeCells]
     | some Cv => simp [Builtin.append_, run_underlying hu, sizeOf, typeInfo, fb, Builtin.lenOf, Builtin.firstCells, ez, storeCells, loadCells, loadCellsFrom]
   ·have e : bI R i ⟨r.e, r.sz, r.v, r.n + 0, r.aU ++ []⟩ = R := by
     funext j
     by_cases e : j = i
     ·subst e; rw [cF, hi]; simp
     ·rw [ct _ _ e]
    show eD a8 bq (bI R i ⟨r.e, r.sz, r.v, r.n + 0, r.aU ++ []⟩) _ _ _ _ _;rw [e];exact aq.put (d := some d) (fun d' e => by cases e; exact hd) ⟨rfl, Ar⟩
  ·obtain ⟨b, c, vs, mu, zJ, kf, gQ, qC⟩ := cM.GX At vX
   have kK : ∀ u ∈ vs, u.oneCell' = true := fun u fc => by
    obtain ⟨j, ae⟩ := j1 fc;have bb : j < news.length := by rw [qC.1]; exact (bL.1 ae).1
    exact (qC.2 j _ u (bN bb) ae).cell
   obtain ⟨v', w2, fW, qA, gA, kG, O0⟩ := Kj (P := P) w 0 tt o.type r.e eJ z r.sz bytes hu fb aN hj kH nV bH r.v r.n xs jD b m c vs (by rw [← qC.1]; exact kf) gQ kK h1 h2 (dJ _) vX
   obtain ⟨ea, b6⟩ := aq.grown (i := i) (r := ⟨r.e, r.sz, v', r.n + m, r.aU ++ news⟩) r.v.ownBlock (fun g an => ⟨r, hi, .inl an⟩) bH gA O0 qA kG (ki.append qC) (fun y ai => by
    rcases h0.1 ai with h | h
    ·exact oB y h
    ·exact aj y h) hd
   refine ⟨v', w2, ea, ?_, O0, b6⟩;have aaT : (Builtin.append_ #[tt, tt] o.type #[a.eval fK, a.eval eR]).run P w = .ok v' w2 := by rw [hk, mu]; exact fW
   simp only [execOp, az, resolve, invoke, builtin, Sem.run_bind, Sem.run_pure, Result.andThen_ok, List.map_toArray, jJ, List.map_nil, aaT]
 | new i t n e sz bytes parts vs zs r hi az aB dY aN ab h1 hs h2 h3 al c4 =>
  obtain ⟨eJ, z, hu, fb, hT, hj, kH, nV, bH⟩ := qW aB;unfold yv at dY;rw [hu] at dY;simp only at dY;unfold zeroOf at dY;rw [fb] at dY;simp only [kU] at dY;rw [hT] at dY;cases dY;have hlen : z.cells.toList.length = sz := hs;have s7 : (zeroValue e).run P w = .ok z w := by simp [zeroValue, typeInfo, program, Sem.run_bind, Sem.run, fb, Result.andThen, hT]
  have ki : bM (s.free A ad) ad w (h8 n sz z.cells.toList) ((List.range (n * sz)).map fun j => z.cells[j % z.cells.size]!) := by
   refine ⟨by simp [h8], fun j x v aa hv => ?_⟩;have ae : j < n * sz := by have := (bL.1 hv).1; simpa using this
   simp only [h8, dL, uX ae, hr, iT] at aa hv;subst aa; subst hv;have bb : j % z.cells.size < z.cells.size := Nat.mod_lt _ (by omega);have aO : z.cells.toList.toArray[j % z.cells.toList.length]! = z.cells[j % z.cells.size]! := by simp
   refine ⟨aO.symm, ?_⟩;rw [aO, getElem!_pos z.cells _ bb];exact cB.1 h1 _ (by simp)
  obtain ⟨us, g1, g2⟩ := zt (U := s.free A ad) (ad := ad) (W := w) (ps := wM n sz) (place := fun i => some (i * sz, sz)) (fun i q ak => by
    simp only [wM, dL] at ak;cases al : (List.range n)[i]? with
    | none => rw [al] at ak; cases ak
    | some m =>
     rw [al] at ak;cases ak;have := bL.1 al;obtain ⟨h3, aD⟩ := this;simp at aD;rw [aD]) (look := s.look) (env := a.eval) parts _ _ zs r ki aN (fun p hp av aF => aq.rel.look aF) ab
  have xZ : us.length = n * sz := by rw [← g2.1]; exact al
  have fW : (execOp a.eval o).run P w = .ok (.value (.slice (some ⟨w.heap.size, 0, none⟩) n n)) (w.alloc (.cells us.toArray e)) := by
   have uv : (parts.toArray.map fun (i, x) => (i, a.eval x)).toList = parts.map fun p => (p.1, a.eval p.2) := by simp
   have cl : (Array.range (n * sz)).map (fun j => z.cells[j % z.cells.size]!) = ((List.range (n * sz)).map fun j => z.cells[j % z.cells.size]!).toArray := by simp [← List.toArray_range]
   simp only [execOp, az, Instr.buildSlice, Sem.run_bind, run_underlying hu, Result.andThen_ok, h5 fb, hj];rw [if_neg (by omega)]
   by_cases aA : n * sz = 0
   ·rw [if_pos aA];have ey : (Array.range (n * sz)).map (fun j => (#[] : Array Value)[j % (#[] : Array Value).size]!) = ((List.range (n * sz)).map fun j => z.cells[j % z.cells.size]!).toArray := by rw [aA]; simp
    simp only [Sem.run_bind, Sem.run_pure, Result.andThen_ok, ey, uv, g1, newRow, newObj, Sem.run];rfl
   ·rw [if_neg aA];simp only [Sem.run_bind, Sem.run_pure, s7, Result.andThen_ok, cl, uv, g1, newRow, newObj, Sem.run];rfl
  have Iu : (w.alloc (.cells us.toArray e)).heap[w.heap.size]? = some (.cells us.toArray e (0, 0)) := by show (w.heap.push _)[w.heap.size]? = _; simp
  obtain ⟨ea, b6⟩ := aq.grown (i := i) (r := ⟨e, sz, .slice (some ⟨w.heap.size, 0, none⟩) n n, n, r⟩) (xs := us) none (fun g an => by cases an) bH (World.grownBy_alloc w _ none) rfl ⟨xZ, .inr ⟨w.heap.size, n, us.toArray, rfl, dJ _, Iu, dI _, h3, by simpa using xZ, by simp [← xZ]⟩⟩ (fun g an => by simp [Value.ownBlock] at an; exact .inr (by omega)) g2 c4 hd;exact ⟨_, _, ea, fW, rfl, b6⟩
 | make i t l c e sz bytes x y pv l9 vs hi az aB dY aa ai Ik h1 hs h2 h3 =>
  obtain ⟨eJ, z, hu, fb, hT, hj, kH, nV, bH⟩ := qW aB;unfold yv at dY;rw [hu] at dY;simp only at dY;unfold zeroOf at dY;rw [fb] at dY;simp only [kU] at dY;rw [hT] at dY;cases dY;have hlen : z.cells.toList.length = sz := hs;have aap : z.cells.size = sz := by simpa using hlen
  have DR : a.eval x = .int pv l := (aq.rel.look aa).1;have abc : a.eval y = .int l9 c := (aq.rel.look ai).1;have Y7 : (c : Int) ≤ 9223372036854775807 := by have h := h3; simp only [maxLen] at h; omega
  have cL : (eJ.bytes : Int) * (c : Int) ≤ 281474976710656 := by
   have h : ((eJ.bytes * c : Nat) : Int) ≤ 281474976710656 := by rw [kH]; omega
   rwa [Int.natCast_mul] at h
  have al := run_make (P := P) w t e eJ z hu fb hT pv l9 l c (by omega) (by omega) cL Y7;simp only [ld, hj] at al
  have fW : (execOp a.eval o).run P w = .ok (.value (.slice (some ⟨w.heap.size, 0, none⟩) l c)) (w.alloc (.cells (madeCells z.cells (c * sz)) e)) := by
   simp only [execOp, az, DR, abc, Sem.run_bind, al, Result.andThen_ok, Sem.run_pure]
  have Iu : (w.alloc (.cells (madeCells z.cells (c * sz)) e)).heap[w.heap.size]? = some (.cells (madeCells z.cells (c * sz)) e (0, 0)) := by show (w.heap.push _)[w.heap.size]? = _; simp
  have hmul : l * sz ≤ c * sz := kT _ Ik;have Ph : (madeCells z.cells (c * sz)).size = c * sz := size_madeCells _ _
  have DP : ((madeCells z.cells (c * sz)).toList.take (l * sz)).length = l * sz := by
   rw [ei, Array.length_toList, Ph]; exact pP hmul
  have ki : bM (s.free A ad) ad w (h8 l sz z.cells.toList) ((madeCells z.cells (c * sz)).toList.take (l * sz)) := by
   refine ⟨by rw [DP]; simp [h8], fun j x v aa hv => ?_⟩;have ae : j < l * sz := by have := (bL.1 hv).1; rw [DP] at this; exact this
   rw [fJ ae] at hv;simp only [h8, dL, uX ae, hr, iT] at aa;subst aa;have bb : j % z.cells.size < z.cells.size := Nat.mod_lt _ (by omega);have aO : z.cells.toList.toArray[j % z.cells.toList.length]! = z.cells[j % z.cells.size]! := by simp
   have lz : v = z.cells[j % z.cells.size]! := by
    have : (madeCells z.cells (c * sz)).toList[j]? = some z.cells[j % z.cells.size]! := by
     simp only [madeCells, Array.toList_map, dL];rw [show (Array.range (c * sz)).toList[j]? = some j by rw [Array.toList_range, uX (qQ ae hmul)]];rfl
    rw [this] at hv;exact (lc hv).symm
   refine ⟨by rw [aO]; exact lz, ?_⟩;rw [aO, getElem!_pos z.cells _ bb];exact cB.1 h1 _ (by simp)
  obtain ⟨ea, b6⟩ := aq.grown (i := i) (r := ⟨e, sz, .slice (some ⟨w.heap.size, 0, none⟩) l c, l, h8 l sz z.cells.toList⟩) none (fun g an => by cases an) bH (World.grownBy_alloc w _ none) rfl ⟨DP, .inr ⟨w.heap.size, c, _, rfl, dJ _, Iu, Ik, h3, Ph, rfl⟩⟩ (fun g an => by simp [Value.ownBlock] at an; exact .inr (by omega)) ki (fun y ai => by simp only [h8, gV] at ai; obtain ⟨j, _, rfl⟩ := ai; rfl) hd;exact ⟨_, _, ea, fW, rfl, b6⟩
 | copy i r tt t2 m lo hi x y news da bH az aB aa ai h1 h2 aj =>
  obtain ⟨el, eJ, hu, fb, hs⟩ := nu aB;have DJ : (P.info? el).map (·.size) = some r.sz := by rw [fb]; simp [hs]
  obtain ⟨pn, oB, xY⟩ := aq.rows i r da;obtain ⟨xs, jD, ki⟩ := pn.row bH
  have hex : ∀ D S v2 w2, a.eval x = D → a.eval y = S → (Builtin.copy_ #[tt, t2] o.type #[D, S]).run P w = .ok v2 w2 → (execOp a.eval o).run P w = .ok (.value v2) w2 := fun D S v2 w2 aG aO cl => by
   subst aG aO;simp only [execOp, az, resolve, invoke, builtin, Sem.run_bind, Sem.run_pure, Result.andThen_ok, List.map_toArray, jJ, List.map_nil, cl]
  obtain ⟨⟨si, vF, ex⟩, OT, mz⟩ := ai.spec bH aq;have pr : r.aU.length = r.n * r.sz := by rw [ki.1]; exact jD.1
  rcases tq (Nat.min m (hi - lo)) with af | af
  ·obtain ⟨e3, G8, jO, eN, Dn⟩ : ∃ e3 G8 jO, a.eval x = .slice e3 G8 jO ∧ G8 = hi - lo := by
    obtain ⟨e3, c, e, _, _⟩ := (aq.rows i r da).FB bH;rcases aa with ⟨aa, rfl, rfl⟩ | aa | ⟨u, aa, ⟨⟨T7, XC, sJ⟩, _⟩⟩
    ·exact ⟨e3, r.n, c, by rw [(aq.rel.look aa).1, e], by omega⟩
    ·have ak : a.eval x = hy r.v r.sz lo hi := (aq.rel.look aa).1;rw [e] at ak;unfold hy sliced at ak;exact ⟨_, _, _, ak, rfl⟩
    ·exact ⟨T7, _, XC, by rw [(aq.rel.look aa).1, sJ], rfl⟩
   subst Dn;refine ⟨goInt 0, w, A, hex _ _ _ _ eN ex (ahy w tt t2 o.type el _ _ _ _ _ _ r.sz hu DJ af), by rw [af]; rfl, ?_⟩
   have e : bI R i ⟨r.e, r.sz, r.v, r.n, eI r.aU (lo * r.sz) (news.take (Nat.min m (hi - lo) * r.sz))⟩ = R := by
    rw [af];funext j
    by_cases e : j = i
    ·subst e; rw [cF, da]; simp [eI]
    ·rw [ct _ _ e]
   rw [e];exact aq.put (d := some d) (fun d' e => by cases e; exact hd) ⟨rfl, rfl⟩
  ·have DA : Nat.min m (hi - lo) ≤ m := Nat.min_le_left _ _;have akD : Nat.min m (hi - lo) ≤ hi - lo := Nat.min_le_right _ _;obtain ⟨b, c, vs, mu, gQ, qC⟩ := mz (by omega)
   obtain ⟨g, cap, cur, hv, nJ, qw, ez, jb, eb, mA⟩ : ∃ g cap cur, r.v = .slice (some ⟨g, 0, none⟩) r.n cap ∧ 0 ≤ g ∧ w.heap[g]? = some (.cells cur r.e (0, 0)) ∧ r.n ≤ cap ∧ cap ≤ maxLen ∧ cur.size = cap * r.sz ∧ cur.toList.take (r.n * r.sz) = xs := by
    rcases jD.2 with ⟨_, aA⟩ | h
    ·omega
    ·exact h
   obtain ⟨jO, eN⟩ : ∃ jO, a.eval x = .slice (some ⟨g, lo * r.sz, none⟩) (hi - lo) jO := by
    rcases aa with ⟨aa, rfl, rfl⟩ | aa | ⟨u, aa, ⟨_, hu⟩⟩
    ·exact ⟨cap, by rw [(aq.rel.look aa).1, hv]; simp⟩
    ·refine ⟨cap - lo, ?_⟩;rw [(aq.rel.look aa).1, hv, S1 (by omega) (by omega)];have k6 : (⟨g, 0, none⟩ : Addr).add (lo * r.sz) = ⟨g, lo * r.sz, none⟩ := by unfold Addr.add; split <;> simp_all
     rw [k6]
    ·obtain ⟨jP, n', c', aG, _, aO⟩ := hu (by omega);rw [hv] at aG;cases aG;exact ⟨_, by rw [(aq.rel.look aa).1, aO]⟩
   generalize pi : Nat.min m (hi - lo) = k at *;have akE : k * r.sz ≤ m * r.sz := kT _ DA;have nf : (vs.take (k * r.sz)).length = k * r.sz := by rw [ei, ← qC.1, OT]; omega
   have hh : (news.take (k * r.sz)).length = k * r.sz := by rw [ei, OT]; omega
   have OM : lo * r.sz + k * r.sz ≤ r.n * r.sz := by rw [← kS]; exact kT _ (by omega)
   have hmul : r.n * r.sz ≤ cap * r.sz := kT _ ez
   have O4 : bM (s.free A ad) ad w (news.take (k * r.sz)) (vs.take (k * r.sz)) := by
    have := qC.sub 0 (k * r.sz);simpa using this
   have kK : ∀ u ∈ vs.take (k * r.sz), u.oneCell' = true := fun u fc => by
    obtain ⟨j, ae⟩ := j1 fc;have bb : j < (news.take (k * r.sz)).length := by rw [hh, ← nf]; exact (bL.1 ae).1
    exact (O4.2 j _ u (bN bb) ae).cell
   have fW := ahz (P := P) w tt t2 o.type el g (lo * r.sz) (hi - lo) jO r.sz b m c cur r.e (vs.take (k * r.sz)) hu DJ qw (by rw [nf, pi]) (fun j v ae => gQ j v (by
    have hl : j < k * r.sz := by rw [← nf]; exact (bL.1 ae).1
    rwa [fJ hl] at ae)) (by rw [nf]; omega) kK
   rw [pi] at fW
   have v7 : ∀ (u : Array Value), w.grownBy (w.setRow g u) (some g) := fun u => ⟨rfl, rfl, rfl, by simp [World.setRow], fun k _ af => by
    simp only [World.setRow, u0];rw [if_neg (fun e => af (by rw [e]))]⟩
   have nQ := setRow_heap w g cur (cur.toList.take (lo * r.sz) ++ vs.take (k * r.sz) ++ cur.toList.drop (lo * r.sz + (vs.take (k * r.sz)).length)).toArray r.e (0, 0) qw;have c4 : cur.toList.length = cap * r.sz := by rw [Array.length_toList]; exact eb
   have hlen : (cur.toList.take (lo * r.sz) ++ vs.take (k * r.sz) ++ cur.toList.drop (lo * r.sz + (vs.take (k * r.sz)).length)).length = cap * r.sz := by
    rw [cO, cO, nf, ei, iC, c4]; omega
   have hR := aiK (cur := cur.toList) (us := vs.take (k * r.sz)) (off := lo * r.sz) (N := r.n * r.sz) (by rw [nf]; exact OM) (by rw [c4]; exact hmul);rw [mA] at hR
   obtain ⟨ea, b6⟩ := aq.HB (i := i) (r := ⟨r.e, r.sz, r.v, r.n, eI r.aU (lo * r.sz) (news.take (k * r.sz))⟩) (w2 := w.setRow g (cur.toList.take (lo * r.sz) ++ vs.take (k * r.sz) ++ cur.toList.drop (lo * r.sz + (vs.take (k * r.sz)).length)).toArray) (xs := xs.take (lo * r.sz) ++ vs.take (k * r.sz) ++ xs.drop (lo * r.sz + (vs.take (k * r.sz)).length)) (some g) (fun jP ec => by cases ec; exact ⟨r, da, .inl (by rw [hv]; rfl)⟩) bH (v7 _)
    ⟨by rw [← hR, ei, hlen]; exact pP hmul, .inr ⟨g, cap, _, hv, nJ, nQ, ez, jb, by simpa using hlen, by simpa using hR⟩⟩ (fun jP ec => by rw [hv] at ec; simp [Value.ownBlock] at ec; exact .inl (by rw [ec])) (ki.eI O4 (lo * r.sz) (by rw [hh, pr]; exact OM)) (fun q ak => by
     unfold eI at ak;simp only [h0] at ak;rcases ak with (h1 | h1) | h1
     ·exact oB q (n2 h1)
     ·exact aj q (n2 h1)
     ·exact oB q (nn h1))
   exact ⟨goInt (k : Int), _, ea, hex _ _ _ _ eN mu fW, rfl, b6.put (d := some d) (fun d' e => by cases e; exact hd) ⟨rfl, rfl⟩⟩
inductive tJ (P : Program) (R : aI) (look : Operand → Option ah) (o : Oper) : aI → Prop
 | store (i : Nat) (r : bG) (off ty : Nat) (x y : Operand) (z : bA) (eJ : TypeInfo) (hi : R i = some r) (aw : 0 < r.n) (az : o.op = .store ty x y) (aa : look x = some (aQ (j6 r.v off))) (ai : look y = some (.w z)) (aB : P.info? ty = some eJ) (hs : eJ.size = z.cells.length) (ab : off + z.cells.length ≤ r.aU.length) (aj : ∀ q ∈ z.cells, q.aZ = true) : tJ P R look o (bI R i ⟨r.e, r.sz, r.v, r.n, eI r.aU off z.cells⟩)
theorem tJ.sound {ay : aI} (h : tJ P R s.look o ay) (aq : eD a8 bq R s a w A ad) : ∃ w2 ea, (execOp a.eval o).run P w = .ok .skip w2 ∧ eD a8 bq ay s a w2 ea ad := by
 cases h with
 | store i r off ty x y z eJ hi aw az aa ai aB hs ab aj =>
  obtain ⟨pn, oB, xY⟩ := aq.rows i r hi;have bH := pn.pos aw;obtain ⟨xs, jD, ki⟩ := pn.row bH
  obtain ⟨g, cap, cur, hv, nJ, qw, ez, jb, eb, mA⟩ : ∃ g cap cur, r.v = .slice (some ⟨g, 0, none⟩) r.n cap ∧ 0 ≤ g ∧ w.heap[g]? = some (.cells cur r.e (0, 0)) ∧ r.n ≤ cap ∧ cap ≤ maxLen ∧ cur.size = cap * r.sz ∧ cur.toList.take (r.n * r.sz) = xs := by
   rcases jD.2 with ⟨_, aA⟩ | h
   ·omega
   ·exact h
  have hp : a.eval x = .pointer (some ⟨g, off, none⟩) := by
   have := (aq.rel.look aa).1;rw [hv] at this;have k6 : (⟨g, 0, none⟩ : Addr).add off = ⟨g, off, none⟩ := by unfold Addr.add; split <;> simp_all
   rw [this]; simp only [j6, k6]
  have aN : gh (s.free A ad) ad w z (a.eval y) := aq.rel.look ai;have pt := aN.cells;have wh : (a.eval y).cells.size = z.cells.length := by have := pt.1; simp at this; exact this.symm
  have pr : r.aU.length = r.n * r.sz := by rw [ki.1]; exact jD.1
  have hmul : r.n * r.sz ≤ cap * r.sz := kT _ ez
  have kj : (storeVar ty ⟨g, off, none⟩ (a.eval y)).run P w = .ok () (w.setRow g (cur.toList.take off ++ (a.eval y).cells.toList ++ cur.toList.drop (off + (a.eval y).cells.toList.length)).toArray) := by
   unfold storeVar;have b7 : ¬ ((a.eval y).cells.size ≠ eJ.size) := by rw [wh, hs]; simp
   simp only [Sem.run_bind, h5 aB, Result.andThen_ok, if_neg b7]
   have dD : ∀ v ∈ (a.eval y).cells.toList, v.oneCell' = true := fun v b8 => by
    obtain ⟨j, ae⟩ := j1 b8;have bb : j < z.cells.length := by rw [pt.1]; exact (bL.1 ae).1
    exact (pt.2 j _ v (bN bb) ae).cell
   have := run_storeCells_at (P := P) g off r.e (a.eval y).cells.toList 0 cur w qw (by simp; omega) dD;simpa using this
  have v7 : ∀ (u : Array Value), w.grownBy (w.setRow g u) (some g) := fun u => ⟨rfl, rfl, rfl, by simp [World.setRow], fun k _ af => by
   simp only [World.setRow, u0];rw [if_neg (fun e => af (by rw [e]))]⟩
  have nQ := setRow_heap w g cur (cur.toList.take off ++ (a.eval y).cells.toList ++ cur.toList.drop (off + (a.eval y).cells.toList.length)).toArray r.e (0, 0) qw
  have hlen : (cur.toList.take off ++ (a.eval y).cells.toList ++ cur.toList.drop (off + (a.eval y).cells.toList.length)).length = cap * r.sz := by
   simp [wh]; omega
  have hR : (cur.toList.take off ++ (a.eval y).cells.toList ++ cur.toList.drop (off + (a.eval y).cells.toList.length)).take (r.n * r.sz) = xs.take off ++ (a.eval y).cells.toList ++ xs.drop (off + (a.eval y).cells.toList.length) := by
   have Po : (a.eval y).cells.toList.length = z.cells.length := by simpa using wh
   rw [← mA];apply List.ext_getElem?;intro j
   by_cases ae : j < r.n * r.sz
   ·rw [fJ ae]
    by_cases rT : j < off
    ·rw [hK, fZ (by simp; omega), fJ rT, hK, fZ (by simp; omega), fJ rT, fJ ae]
    ·have t1 : (cur.toList.take off).length = off := by simp; omega
     have t2 : ((cur.toList.take (r.n * r.sz)).take off).length = off := by simp; omega
     by_cases DZ : j < off + z.cells.length
     ·rw [hK, gM (by omega), fZ (by omega), hK, gM (by omega), fZ (by omega), t1, t2]
     ·rw [gM (by simp only [cO, t1]; omega), gM (by simp only [cO, t2]; omega), fY, fY];simp only [cO, t1, t2, Po];rw [fJ (by omega)]
   ·rw [lJ (by simp; omega), lJ];simp only [cO, ei, iC, Po];have : cur.toList.length = cap * r.sz := by simpa using eb
    omega
  obtain ⟨ea, b6⟩ := aq.HB (i := i) (r := ⟨r.e, r.sz, r.v, r.n, eI r.aU off z.cells⟩) (w2 := w.setRow g (cur.toList.take off ++ (a.eval y).cells.toList ++ cur.toList.drop (off + (a.eval y).cells.toList.length)).toArray) (xs := xs.take off ++ (a.eval y).cells.toList ++ xs.drop (off + (a.eval y).cells.toList.length)) (some g) (fun jP ec => by cases ec; exact ⟨r, hi, .inl (by rw [hv]; rfl)⟩) bH (v7 _)
   ⟨by simp [wh]; have := jD.1; omega, .inr ⟨g, cap, _, hv, nJ, nQ, ez, jb, by simpa using hlen, by simpa using hR⟩⟩ (fun jP ec => by rw [hv] at ec; simp [Value.ownBlock] at ec; exact .inl (by rw [ec])) (ki.eI pt off ab) (fun q ak => by
    unfold eI at ak;simp only [h0] at ak;rcases ak with (h1 | h1) | h1
    ·exact oB q (n2 h1)
    ·exact aj q h1
    ·exact oB q (nn h1))
  refine ⟨_, ea, ?_, b6⟩;simp only [execOp, az, Instr.storeAt, hp, Instr.sureAddr, Sem.run_bind, Sem.run_pure, Result.andThen_ok, kj]
end
abbrev Mem := Nat → Option (List AC)
def cj : Mem := fun _ => none
def er (ad : Nat → Nat) (m : Mem) (R : aI) (b : Nat) : Prop := (∃ k cs, m k = some cs ∧ ad k = b) ∨ ∃ i r, R i = some r ∧ r.own b
structure e9 (U : Nat → Prop) (ad : Nat → Nat) (W : World) (m : Mem) (R : aI) : Prop where
  dz : ∀ k cs, m k = some cs → ∃ (vs : List Value) (ty : TypeId), W.heap[ad k]? = some (.cells vs.toArray ty (0, 0)) ∧ bM U ad W cs vs ∧ ¬ U (ad k)
  fN : ∀ k cs x j, m k = some cs → x ∈ cs → x.owns j → ∃ ar, m j = some ar
  inj : ∀ k k' cs ar, m k = some cs → m k' = some ar → ad k = ad k' → k = k'
  rows : ∀ i r, R i = some r → r.ok U ad W ∧ (∀ y ∈ r.aU, y.aZ = true) ∧ ∀ g, r.own g → ¬ U g ∧ ∀ k cs, m k = some cs → ad k ≠ g
  apart : ∀ i j r q, R i = some r → R j = some q → i ≠ j → ∀ g, r.own g → ¬ q.own g
def Ix (ad : Nat → Nat) (W : World) (m : Mem) (R : aI) : eL := ⟨W, fun b => b < W.heap.size ∧ ¬ er ad m R b, fun _ h => h.1, fun _ => none, []⟩
def bX {α : Type} (f g : Nat → Option α) : Nat → Option α := fun j => match f j with
  | some x => some x
  | none => g j
theorem ko {α : Type} {f g : Nat → Option α} {j : Nat} {x : α} (h : bX f g j = some x) : f j = some x ∨ (f j = none ∧ g j = some x) := by
  unfold bX at h;cases ap : f j with
  | some y => rw [ap] at h; exact .inl h
  | none => rw [ap] at h; exact .inr ⟨rfl, h⟩
theorem hX {α : Type} {f g : Nat → Option α} {j : Nat} {x : α} (h : f j = some x) : bX f g j = some x := by unfold bX; rw [h]
theorem hY {α : Type} {f g : Nat → Option α} {j : Nat} (h : f j = none) : bX f g j = g j := by unfold bX; rw [h]
structure du (P : Program) (f : FuncId) (args : List ah) (m0 : Mem) (R0 : aI) (Post : ah → Mem → aI → Prop) : Prop where
  call : ∀ (U : Nat → Prop) (ad : Nat → Nat) (W : World) (vs : List Value), e9 U ad W m0 R0 → (∀ x ∈ args, ∀ j, x.owns j → ∃ cs, m0 j = some cs) → kD U ad W args vs →
    Calls P f vs.toArray W fun e bk => ∃ v r aH ay aX cR, e = .returned v ∧ Post r aH ay ∧ e9 cR aX bk aH ay ∧ de cR aX bk r v ∧ (∀ j, r.owns j → ∃ cs, aH j = some cs) ∧
      (∀ k cs, m0 k = some cs → aX k = ad k ∧ ∃ ar, aH k = some ar) ∧ (∀ i r, R0 i = some r → ∃ aV, ay i = some aV) ∧
      (∀ b, cR b → U b ∨ W.heap.size ≤ b ∨ er ad m0 R0 b) ∧ (∀ b, er aX aH ay b → er ad m0 R0 b ∨ W.heap.size ≤ b) ∧ jr (Ix ad W m0 R0) bk
section
variable {P : Program} {B a8 : eL} {A bq : Nat → Prop} {s : aC} {ad : Nat → Nat} {a : Act} {w : World} {o : Oper} {R : aI} {Q : Exit → Act → World → Prop}
theorem pX.Xi {U : Nat → Prop} {v : Value} {fn : Fn} {cs : List AC} (h : gx U ad w (.p (pX fn cs)) v) : ∃ vs : List Value, v = .func fn #[] vs.toArray ∧ ∀ aX, bM U aX w cs vs := by
  obtain ⟨⟨vs, rfl, hl, aj⟩, ap⟩ := h;refine ⟨vs, rfl, fun aX => ⟨hl.1, fun i x u aa hu => ?_⟩⟩;have h := hl.2 i x u aa hu;cases x with
  | c y => exact h
  | own k o => exact absurd rfl (aj _ (dc aa) k)
  | p R => exact ⟨h.1, fun b ab => ap b ⟨vs, rfl, i, _, u, aa, hu, ab⟩⟩
theorem tH.run {f : FuncId} {args : List ah} (aj : tH P s.look o f args) (aq : Rel B A s ad a w) : ∃ us : List Value, kD (s.free A ad) ad w args us ∧ (execOp a.eval o).run P w = .ok (.enter f us.toArray) w := by
  obtain ⟨⟨c, g, az, zH, aR⟩, zN⟩ := aj;rcases aR with ⟨bs, an, pe, xP⟩ | ⟨cs, an, pe⟩
  · have jd : a.eval g = .func (.func f) bs.toArray #[] := (aq.look an).1
    refine ⟨bs ++ c.args.toList.map a.eval, ?_, ?_⟩
    · refine ⟨by have := congrArg List.length pe; simpa using this.symm, fun i x v aa hv => ?_⟩
      have h1 : (bs.map (fun b => some (yg b)) ++ c.args.toList.map s.look)[i]? = some (some x) := by rw [pe, dL, aa]; rfl
      rcases gK i bs.length with bb | jR
      · rw [fZ (by simpa using bb), dL] at h1
        rw [fZ bb] at hv;rw [hv] at h1;simp only [hr, iT] at h1;subst h1;exact S6 (cB.1 xP v (dc hv))
      · rw [gM (by simpa using jR), dL] at h1
        rw [gM jR, dL] at hv;simp only [iD] at h1;cases ai : c.args.toList[i - bs.length]? with
        | none => rw [ai] at hv; cases hv
        | some y =>
          rw [ai] at h1 hv;simp only [hr, iT] at h1 hv;subst hv;exact aq.look h1
    · have e : bs.toArray ++ c.args.map a.eval ++ #[] = (bs ++ c.args.toList.map a.eval).toArray := by
        rw [Array.append_empty];apply Array.ext';simp
      simp only [execOp, az, resolve, zH, Deferred.ofValue, jd];simp only [Sem.run_bind, Sem.run_pure, Result.andThen_ok, invoke];rw [e];exact CT zN
  · obtain ⟨vs, jd, c4⟩ := pX.Xi (ad := ad) (aq.look an)
    refine ⟨c.args.toList.map a.eval ++ vs, ?_, ?_⟩
    · refine ⟨by have := congrArg List.length pe; have h2 := (c4 ad).1; simp at this ⊢; omega, fun i x v aa hv => ?_⟩
      have h1 : (c.args.toList.map s.look ++ cs.map (fun x => some (.w (.one x))))[i]? = some (some x) := by rw [pe, dL, aa]; rfl
      rcases gK i c.args.toList.length with bb | jR
      · rw [fZ (by simpa using bb), dL] at h1
        rw [fZ (by simpa using bb), dL] at hv;cases ai : c.args.toList[i]? with
        | none => rw [ai] at hv; cases hv
        | some y =>
          rw [ai] at h1 hv;simp only [hr, iT] at h1 hv;subst hv;exact aq.look h1
      · rw [gM (by simpa using jR), dL] at h1
        rw [gM (by simpa using jR)] at hv;simp only [iD] at h1 hv;cases ai : cs[i - c.args.toList.length]? with
        | none => rw [ai] at h1; cases h1
        | some y =>
          rw [ai] at h1;simp only [hr, iT] at h1;subst h1;exact (c4 ad).2 _ y v ai hv
    · have e : (#[] : Array Value) ++ c.args.map a.eval ++ vs.toArray = (c.args.toList.map a.eval ++ vs).toArray := by
        apply Array.ext';simp
      simp only [execOp, az, resolve, zH, Deferred.ofValue, jd];simp only [Sem.run_bind, Sem.run_pure, Result.andThen_ok, invoke];rw [e];exact CT zN
theorem eD.part (aq : eD a8 bq R s a w A ad) {m0 : Mem} {R0 : aI} (hm : ∀ k cs, m0 k = some cs → s.mem k = some cs) (al : bx R0 R) (fN : ∀ k cs x j, m0 k = some cs → x ∈ cs → x.owns j → ∃ ar, m0 j = some ar) : e9 (s.free A ad) ad w m0 R0 := by
  refine ⟨fun k cs af => ?_, fN, fun k k' cs ar af eP e => aq.rel.inj k k' cs ar (hm k cs af) (hm k' ar eP) e, fun i r hi => ?_, fun i j r q hi ae => aq.apart i j r q (al i r hi) (al j q ae)⟩
  · obtain ⟨vs, ty, h1, h2, _⟩ := aq.rel.dz k cs (hm k cs af)
    exact ⟨vs, ty, h1, h2, fun h => h.2 k cs (hm k cs af) rfl⟩
  · obtain ⟨h1, h2, h3⟩ := aq.rows i r (al i r hi)
    exact ⟨h1, h2, fun g an => ⟨fun h => (h3 g an).1 h.1, fun k cs af => (h3 g an).2 k cs (hm k cs af)⟩⟩
theorem eD.aaF (aq : eD a8 bq R s a w A ad) {m0 : Mem} {R0 : aI} (hm : ∀ k cs, m0 k = some cs → s.mem k = some cs) (al : bx R0 R) {b : Nat} (h : er ad m0 R0 b) : b < w.heap.size := by
  rcases h with ⟨k, cs, af, rfl⟩ | ⟨i, r, hi, an⟩
  · exact aq.rel.lt (hm k cs af)
  · exact (aq.rows i r (al i r hi)).ok.lt an
def aC.over (s : aC) (aH : Mem) : aC := { s with mem := bX aH s.mem }
theorem eD.called (aq : eD a8 bq R s a w A ad) (ok : s.cQ) {m0 aH : Mem} {R0 ay : aI} {aX : Nat → Nat} {cR : Nat → Prop} {w' : World} (hm : ∀ k cs, m0 k = some cs → s.mem k = some cs) (al : bx R0 R)
    (cq : e9 cR aX w' aH ay) (ba : ∀ k cs, m0 k = some cs → aX k = ad k ∧ ∃ ar, aH k = some ar) (bo : ∀ i r, R0 i = some r → ∃ aV, ay i = some aV) (f1 : ∀ k ar, aH k = some ar → (∃ cs, m0 k = some cs) ∨ s.mem k = none) (fn : ∀ k ar, aH k = some ar → s.mem k = none → k < s.n)
    (bY : ∀ b, cR b → s.free A ad b ∨ w.heap.size ≤ b ∨ er ad m0 R0 b) (b0 : ∀ b, er aX aH ay b → er ad m0 R0 b ∨ w.heap.size ≤ b) (ab : jr (Ix ad w m0 R0) w') :
    eD a8 bq (bX ay R) (s.over aH) a w' (fun b => (s.free A ad b ∧ b < w.heap.size) ∨ cR b ∨ w'.heap.size ≤ b) (fun k => match aH k with | some _ => aX k | none => ad k) ∧
      (∀ b, cR b → (s.over aH).free (fun b => (s.free A ad b ∧ b < w.heap.size) ∨ cR b ∨ w'.heap.size ≤ b) (fun k => match aH k with | some _ => aX k | none => ad k) b) ∧ (s.over aH).cQ := by
  have bb : ∀ b, er ad m0 R0 b → b < w.heap.size := fun b h => aq.aaF hm al h
  have jU : ∀ k, (∃ cs, s.mem k = some cs) → (match aH k with | some _ => aX k | none => ad k) = ad k := by
    rintro k ⟨cs, af⟩;cases fV : aH k with
    | none => rfl
    | some ar =>
      rcases f1 k ar fV with ⟨vE, aA⟩ | aA
      · exact (ba k vE aA).1
      · rw [aA] at af; cases af
  have abo : ∀ k ar, aH k = some ar → (match aH k with | some _ => aX k | none => ad k) = aX k := fun k ar h => by rw [h]
  have sX : ∀ b, s.free A ad b → ¬ er ad m0 R0 b := by
    rintro b ap (⟨k, cs, af, rfl⟩ | ⟨i, r, hi, an⟩)
    · exact ap.2 k cs (hm k cs af) rfl
    · exact ((aq.rows i r (al i r hi)).own b an).1 ap.1
  have vU : ∀ b, b < w.heap.size → ¬ er ad m0 R0 b → w'.heap[b]? = w.heap[b]? := fun b h1 h2 => ab.block b ⟨h1, h2⟩;have bH : w.heap.size ≤ w'.heap.size := ab.size
  have DD : ∀ b, er aX aH ay b → b < w'.heap.size := by
    rintro b (⟨k, cs, af, rfl⟩ | ⟨i, r, hi, an⟩)
    · obtain ⟨vs, ty, h1, _⟩ := cq.dz k cs af
      exact (j2.1 h1).1
    · exact (cq.rows i r hi).1.lt an
 
  have AS : ∀ k cs, aH k = none → s.mem k = some cs → ¬ er ad m0 R0 (ad k) := by
    rintro k cs aw af (⟨j, vE, ae, e⟩ | ⟨i, r, hi, an⟩)
    · have bm : j = k := aq.rel.inj j k _ _ (hm j vE ae) af e
      subst bm;obtain ⟨_, ar, h⟩ := ba j vE ae;rw [aw] at h; cases h
    · exact ((aq.rows i r (al i r hi)).own _ an).2 k cs af rfl
  have Bi : ∀ i r, ay i = none → R i = some r → ∀ g, r.own g → ¬ er ad m0 R0 g := by
    rintro i r aw hi g an (⟨j, vE, ae, e⟩ | ⟨eH, aV, da, ec⟩)
    · exact ((aq.rows i r hi).own _ an).2 j vE (hm j vE ae) e
    · by_cases e : i = eH
      · subst e
        obtain ⟨q, h⟩ := bo i aV da;rw [aw] at h; cases h
      · exact aq.apart i eH r aV hi (al eH aV da) e g an ec
  have yr : ∀ i r, R i = some r → ∀ g, r.own g → g < w.heap.size := fun i r hi g an => (aq.rows i r hi).ok.lt an
  have HR : ∀ b, cR b → ¬ er aX aH ay b := by
    rintro b hu (⟨k, cs, af, rfl⟩ | ⟨i, r, hi, an⟩)
    · obtain ⟨_, _, _, _, h⟩ := cq.dz k cs af; exact h hu
    · exact ((cq.rows i r hi).2.2 b an).1 hu
  have Ht : ∀ b, s.free A ad b → b < w.heap.size → (s.over aH).free (fun b => (s.free A ad b ∧ b < w.heap.size) ∨ cR b ∨ w'.heap.size ≤ b) (fun k => match aH k with | some _ => aX k | none => ad k) b := by
    intro b ap hl;refine ⟨.inl ⟨ap, hl⟩, fun k cs af => ?_⟩;rcases ko (show bX aH s.mem k = some cs from af) with h | ⟨h, aM⟩
    · simp only [h]
      intro e;rcases b0 b (.inl ⟨k, cs, h, e⟩) with q | q
      · exact sX b ap q
      · omega
    · simp only [h]; exact ap.2 k cs aM
  have Hu : ∀ b, cR b → (s.over aH).free (fun b => (s.free A ad b ∧ b < w.heap.size) ∨ cR b ∨ w'.heap.size ≤ b) (fun k => match aH k with | some _ => aX k | none => ad k) b := by
    intro b hu;refine ⟨.inr (.inl hu), fun k cs af => ?_⟩;rcases ko (show bX aH s.mem k = some cs from af) with h | ⟨h, aM⟩
    · simp only [h]
      intro e;exact HR b hu (.inl ⟨k, cs, h, e⟩)
    · simp only [h]
      intro e;subst e;rcases bY _ hu with q | q | q
      · exact q.2 k cs aM rfl
      · have := aq.rel.lt aM; omega
      · exact AS k cs h aM q
  have c9 : (s.over aH).cQ := by
    have AH : ∀ j, (∃ cs, s.mem j = some cs) → ∃ cs, (s.over aH).mem j = some cs := by
      rintro j ⟨cs, h⟩;show ∃ cs, bX aH s.mem j = some cs;cases fV : aH j with
      | some c => exact ⟨c, hX fV⟩
      | none => exact ⟨cs, by rw [hY fV]; exact h⟩
    refine ⟨fun t av j aB ae => AH j (ok.hz t av j aB ae), fun k cs x j af aa ae => ?_⟩;rcases ko (show bX aH s.mem k = some cs from af) with h | ⟨h, aM⟩
    · obtain ⟨c, aj⟩ := cq.fN k cs x j h aa ae
      exact ⟨c, hX aj⟩
    · exact AH j (ok.dz k cs x j aM aa ae)
  have ac9 : ∀ k cs, m0 k = some cs → er aX aH ay (ad k) := fun k cs af => by
    obtain ⟨e, ar, h⟩ := ba k cs af;exact .inl ⟨k, ar, h, e⟩
  have O1 : ∀ b, er ad m0 R0 b → ¬ a8.F b := by
    rintro b (⟨k, cs, af, rfl⟩ | ⟨i, r, hi, an⟩)
    · exact aq.px k cs (hm k cs af)
    · exact (aq.hot i r b (al i r hi) an).1
  have QS : ∀ b, w.heap.size ≤ b → ¬ a8.F b := fun b h ap => by have := a8.lt b ap; have := aq.below.size; omega
  refine ⟨⟨aq.up, ?_, ?_, fun k cs af ap => ?_, ⟨ab.os.trans aq.below.os, ab.tape.trans aq.below.tape, ab.output.trans aq.below.output, ht aq.below.size ab.size, fun b ap => ?_⟩, fun i r hi => ?_, fun i j r q hi ae e0 g an => ?_, fun i r g hi an => ?_, fun k b af => ?_⟩, Hu, c9⟩
  · rintro b (h | h | h)
    · exact aq.sub b h.1.1
    · rcases bY b h with q | q | ⟨k, cs, af, rfl⟩ | ⟨i, r, hi, an⟩
      · exact aq.sub b q.1
      · exact aq.up b (ht aq.below.size q)
      · exact absurd (ac9 k cs af) (HR _ h)
      · exact (aq.hot i r b (al i r hi) an).2
    · exact aq.up b (by have := aq.below.size; omega)
  · refine ⟨aq.rel.qL, aq.rel.size, fun t av aB => ?_, fun k cs af => ?_, fun k k' cs ar af eP e => ?_, jr.refl _, fun b h => .inr (.inr h), vQ _ _ _⟩
    · obtain ⟨v, h1, h2⟩ := aq.rel.hz t av aB
      exact ⟨v, h1, h2.map (fun b ap hl => ⟨Ht b ap hl, vU b hl (sX b ap)⟩) fun j ae => jU j (ok.hz t av j aB ae)⟩
    · rcases ko (show bX aH s.mem k = some cs from af) with h | ⟨h, aM⟩
      · obtain ⟨vs, ty, h1, h2, _⟩ := cq.dz k cs h
        refine ⟨vs, ty, by simp only [h]; exact h1, h2.map (fun b hu _ => ⟨Hu b hu, rfl⟩) fun j x aa ae => ?_, fun ap => ap.2 k cs af rfl⟩;obtain ⟨c, aj⟩ := cq.fN k cs x j h aa ae;exact abo j c aj
      · obtain ⟨vs, ty, h1, h2, _⟩ := aq.rel.dz k cs aM
        refine ⟨vs, ty, by simp only [h]; rw [vU _ (aq.rel.lt aM) (AS k cs h aM)]; exact h1, h2.map (fun b ap hl => ⟨Ht b ap hl, vU b hl (sX b ap)⟩) fun j x aa ae => jU j (ok.dz k cs x j aM aa ae), fun ap => ap.2 k cs af rfl⟩
    · rcases ko (show bX aH s.mem k = some cs from af) with h | ⟨h, aM⟩
      · rcases ko (show bX aH s.mem k' = some ar from eP) with g | ⟨g, jP⟩
        · simp only [h, g] at e
          exact cq.inj k k' cs ar h g e
        · simp only [h, g] at e
          rcases b0 _ (.inl ⟨k, cs, h, e⟩) with q | q
          · exact absurd q (AS k' ar g jP)
          · have := aq.rel.lt jP; omega
      · rcases ko (show bX aH s.mem k' = some ar from eP) with g | ⟨g, jP⟩
        · simp only [h, g] at e
          rcases b0 _ (.inl ⟨k', ar, g, e.symm⟩) with q | q
          · exact absurd q (AS k cs h aM)
          · have := aq.rel.lt aM; omega
        · simp only [h, g] at e
          exact aq.rel.inj k k' cs ar aM jP e
  · rcases ko (show bX aH s.mem k = some cs from af) with h | ⟨h, aM⟩
    · simp only [h] at ap
      rcases b0 _ (.inl ⟨k, cs, h, rfl⟩) with q | q
      · exact O1 _ q ap
      · exact QS _ q ap
    · simp only [h] at ap
      exact aq.px k cs aM ap
  · exact (vU b (qQ (a8.lt b ap) aq.below.size) fun h => O1 b h ap).trans (aq.below.block b ap)
  · rcases ko hi with h | ⟨h, aM⟩
    · obtain ⟨l4, aj, an⟩ := cq.rows i r h
      refine ⟨l4.kept aj (fun _ _ => rfl) (dI _) (fun b hu _ => ⟨Hu b hu, rfl⟩), aj, fun g q => ?_⟩;have aR : er aX aH ay g := .inr ⟨i, r, h, q⟩;refine ⟨?_, fun k cs af => ?_⟩
      · rintro (z | z | z)
        · rcases b0 g aR with y | y
          · exact sX g z.1 y
          · omega
        · exact HR g z aR
        · have := DD g aR; omega
      · rcases ko (show bX aH s.mem k = some cs from af) with y | ⟨y, y'⟩
        · simp only [y]; exact (an g q).2 k cs y
        · simp only [y]
          intro e;subst e;rcases b0 _ aR with z | z
          · exact AS k cs y y' z
          · have := aq.rel.lt y'; omega
    · obtain ⟨l4, aj, an⟩ := aq.rows i r aM
      refine ⟨l4.kept aj (fun g q => vU g (yr i r aM g q) (Bi i r h aM g q)) bH (fun b ap cL => ⟨Ht b ap cL, vU b cL (sX b ap)⟩), aj, fun g q => ⟨?_, fun k cs af => ?_⟩⟩
      · rintro (z | z | z)
        · exact (an g q).1 z.1.1
        · rcases bY g z with y | y | y
          · exact (an g q).1 y.1
          · have := yr i r aM g q; omega
          · exact Bi i r h aM g q y
        · have := yr i r aM g q; omega
      · rcases ko (show bX aH s.mem k = some cs from af) with y | ⟨y, y'⟩
        · simp only [y]
          intro e;rcases b0 g (.inl ⟨k, cs, y, e⟩) with z | z
          · exact Bi i r h aM g q z
          · have := yr i r aM g q; omega
        · simp only [y]; exact (an g q).2 k cs y'
  · rcases ko hi with h | ⟨h, aM⟩
    · rcases ko ae with y | ⟨y, y'⟩
      · exact cq.apart i j r q h y e0 g an
      · intro ak
        rcases b0 g (.inr ⟨i, r, h, an⟩) with z | z
        · exact Bi j q y y' g ak z
        · have := yr j q y' g ak; omega
    · rcases ko ae with y | ⟨y, y'⟩
      · intro ak
        rcases b0 g (.inr ⟨j, q, y, ak⟩) with z | z
        · exact Bi i r h aM g an z
        · have := yr i r aM g an; omega
      · exact aq.apart i j r q aM y' e0 g an
  · rcases ko hi with h | ⟨h, aM⟩
    · rcases b0 g (.inr ⟨i, r, h, an⟩) with (⟨k, cs, af, e⟩ | ⟨j, q, ae, ak⟩) | z
      · obtain ⟨bm, ar, aA⟩ := ba k cs af
        exact absurd (bm.trans e) (((cq.rows i r h).2.2 g an).2 k ar aA)
      · exact aq.hot j q g (al j q ae) ak
      · exact ⟨QS g z, aq.up g (by have := aq.below.size; omega)⟩
    · exact aq.hot i r g aM an
  · obtain ⟨h1, h2⟩ := aq.j8 k b af
    refine ⟨h1, ?_⟩;cases fV : aH k with
    | none => exact h2
    | some c =>
      rcases f1 k c fV with ⟨cs, aA⟩ | aA
      · exact (ba k cs aA).1.trans h2
      · exact absurd (fn k c fV aA) (Nat.not_lt.2 h1)
structure vn (P : Program) (T : Nat → Bool) (R : aI) (s : aC) (o : Oper) (K : aI → aC → Prop) : Prop where
  ex : ∃ f args m0 R0 Post, tH P s.look o f args ∧ du P f args m0 R0 Post ∧ (∀ x ∈ args, ∀ j, x.owns j → ∃ cs, m0 j = some cs) ∧ (∀ k cs, m0 k = some cs → s.mem k = some cs ∧ (T k = true ∨ ∀ r aH ay, Post r aH ay → aH k = some cs)) ∧ bx R0 R ∧ (∀ k cs x j, m0 k = some cs → x ∈ cs → x.owns j → ∃ ar, m0 j = some ar) ∧
    ∀ r aH ay, Post r aH ay → (∀ j, r.owns j → ∃ cs, aH j = some cs) → (∀ k cs x j, aH k = some cs → x ∈ cs → x.owns j → ∃ ar, aH j = some ar) → (∀ k cs, m0 k = some cs → ∃ ar, aH k = some ar) →
      (∀ k ar, aH k = some ar → (∃ cs, m0 k = some cs) ∨ (s.mem k = none ∧ k < s.n)) ∧ K (bX ay R) ((s.over aH).put o.dst r)
theorem aC.cQ.aes {aH : Mem} (ok : s.cQ) (fN : ∀ k cs x j, aH k = some cs → x ∈ cs → x.owns j → ∃ ar, aH j = some ar) : (s.over aH).cQ := by
  have AH : ∀ j, (∃ cs, s.mem j = some cs) → ∃ cs, (s.over aH).mem j = some cs := by
    rintro j ⟨cs, h⟩;show ∃ cs, bX aH s.mem j = some cs;cases fV : aH j with
    | some c => exact ⟨c, hX fV⟩
    | none => exact ⟨cs, by rw [hY fV]; exact h⟩
  refine ⟨fun t av j aB ae => AH j (ok.hz t av j aB ae), fun k cs x j af aa ae => ?_⟩;rcases ko (show bX aH s.mem k = some cs from af) with h | ⟨h, aM⟩
  · obtain ⟨c, aj⟩ := fN k cs x j h aa ae
    exact ⟨c, hX aj⟩
  · exact AH j (ok.dz k cs x j aM aa ae)
theorem aC.cQ.JN {aH : Mem} {r : ah} (ok : s.cQ) (fN : ∀ k cs x j, aH k = some cs → x ∈ cs → x.owns j → ∃ ar, aH j = some ar) (jD : ∀ j, r.owns j → ∃ cs, aH j = some cs) (dst : Option Nat) : ((s.over aH).put dst r).cQ :=
  (ok.aes fN).put fun j ae => by
    obtain ⟨c, aj⟩ := jD j ae;exact ⟨c, hX aj⟩
theorem vn.mono {K lS : aI → aC → Prop} (ok : s.cQ) {T : Nat → Bool} (h : vn P T R s o K) (fi : ∀ R s, s.cQ → K R s → lS R s) : vn P T R s o lS := by
  obtain ⟨f, args, m0, R0, Post, aj, hp, az, hm, al, fN, af⟩ := h.ex;refine ⟨f, args, m0, R0, Post, aj, hp, az, hm, al, fN, fun r aH ay h1 h2 h3 aD => ?_⟩;obtain ⟨f1, k⟩ := af r aH ay h1 h2 h3 aD;exact ⟨f1, fi _ _ (ok.JN h3 h2 _) k⟩
theorem vn.sound {K : aI → aC → Prop} {T : Nat → Bool} (h : vn P T R s o K) (hd : ∀ d, o.dst = some d → d < s.n) (aq : eD a8 bq R s a w A ad) (ok : s.cQ) {lS : Act → World → Prop} (fi : ∀ ay s' a' w', s'.cQ → p7 a8 bq ay s' a' w' → K ay s' → lS a' w') : o.wp P a w lS Q := by
  obtain ⟨f, args, m0, R0, Post, aj, hp, az, fV, al, fN, af⟩ := h.ex;have hm : ∀ k cs, m0 k = some cs → s.mem k = some cs := fun k cs h => (fV k cs h).1;obtain ⟨us, cW, fW⟩ := aj.run aq.rel;unfold Oper.wp;rw [fW];refine (hp.call (s.free A ad) ad w us (aq.part hm al fN) az cW).mono ?_;rintro e w' ⟨v, r, aH, ay, aX, cR, rfl, kh, cq, hv, jD, ba, bo, bY, b0, ab⟩;obtain ⟨f1, eP⟩ := af r aH ay kh jD cq.fN fun k cs h => (ba k cs h).2
  obtain ⟨b6, dx, cX⟩ := aq.called ok hm al cq ba bo (fun k c h => (f1 k c h).imp id And.left) (fun k c h aA => by
    rcases f1 k c h with ⟨cs, q⟩ | q
    · rw [hm k cs q] at aA; cases aA
    · exact q.2) bY b0 ab
  have b8 : de ((s.over aH).free (fun b => (s.free A ad b ∧ b < w.heap.size) ∨ cR b ∨ w'.heap.size ≤ b) (fun k => match aH k with | some _ => aX k | none => ad k)) (fun k => match aH k with | some _ => aX k | none => ad k) w' r v :=
    hv.map (fun b hu _ => ⟨dx b hu, rfl⟩) fun j ae => by
      obtain ⟨c, aj⟩ := jD j ae;simp only [aj]
  refine fi _ _ _ _ (cX.put fun j ae => ?_) ⟨_, _, b6.put (fun d' e => hd d' e) b8⟩ eP;obtain ⟨c, aj⟩ := jD j ae;exact ⟨c, hX aj⟩
end
end Go.Proofs.YtbcecodakfejaaaGreat
