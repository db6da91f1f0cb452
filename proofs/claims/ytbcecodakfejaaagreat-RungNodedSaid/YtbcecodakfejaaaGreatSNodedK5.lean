/-
  My own texts, without what this claim does not need. My own text.
-/
import Derived.Laws.MakeOwn
import Derived.Laws.Slices
import Derived.Test.YtbcecodakfejaaaGreatSNodedK4
set_option maxRecDepth 100000
set_option maxHeartbeats 64000000
set_option linter.unusedVariables false
set_option linter.unusedSimpArgs false
set_option linter.unusedSectionVars false
namespace Go.Proofs.YtbcecodakfejaaaGreat
open Go.RowKit
structure bG where
 e : Nat
 sz : Nat
 v : Value
 n : Nat
 aS : List AC
abbrev aI := Nat → Option bG
def gj : aI := fun _ => none
def br (i : Nat) (r : bG) : aI := bK gj i r
def bB (R ay : aI) : Prop := ∀ i r, R i = some r → ay i = some r
theorem bB.refl (R : aI) : bB R R := fun _ _ h => h
theorem jx (f : aI) (i : Nat) (r : bG) : bB (br i r) (bK f i r) := by
 intro j q h
 by_cases e : j = i
 ·subst e; rw [br, cx] at h; rw [cx]; exact h
 ·rw [br, cl _ _ e] at h; cases h
def jy (v : Value) (off : Nat) : Value := match v with
 | .slice (some a) _ _ => .pointer (some (a.add off))
 | _ => .pointer none
def hc (v : Value) (z lo hi : Nat) : Value := match v with
 | .slice A _ c => sliced A lo hi c z
 | _ => v
def bG.own (r : bG) (b : Nat) : Prop := r.v.ownBlock = some b ∨ (r.sz = 0 ∧ ∃ S w, r.aS = [.p S] ∧ S.holds w r.v ∧ S.kX w r.v b)
def bG.ok (U : Nat → Prop) (ad : Nat → Nat) (w : World) (r : bG) : Prop :=
 (0 < r.sz ∧ ∃ xs, w.ownsRow 0 r.e r.sz r.v r.n xs ∧ bL U ad w r.aS xs) ∨ (r.sz = 0 ∧ r.n = 0 ∧ r.v.ownBlock = none ∧ (∃ S, r.aS = [.p S] ∧ S.holds w r.v) ∧ ∀ b, r.own b → b < w.heap.size)
theorem bG.oW {r : bG} {b : Nat} (h : r.own b) (hs : 0 < r.sz) : r.v.ownBlock = some b := by
 rcases h with h | ⟨h, _⟩
 ·exact h
 ·omega
theorem bG.ok.row {U : Nat → Prop} {ad : Nat → Nat} {w : World} {r : bG} (h : r.ok U ad w) (hs : 0 < r.sz) : ∃ xs, w.ownsRow 0 r.e r.sz r.v r.n xs ∧ bL U ad w r.aS xs := by
 rcases h with ⟨_, h⟩ | ⟨h, _⟩
 ·exact h
 ·omega
theorem bG.ok.pos {U : Nat → Prop} {ad : Nat → Nat} {w : World} {r : bG} (h : r.ok U ad w) (ax : 0 < r.n) : 0 < r.sz := by
 rcases h with ⟨h, _⟩ | ⟨_, h, _⟩
 ·exact h
 ·omega
theorem bG.ok.lt {U : Nat → Prop} {ad : Nat → Nat} {w : World} {r : bG} (h : r.ok U ad w) {g : Nat} (aq : r.own g) : g < w.heap.size := by
 rcases h with ⟨hs, xs, az, _⟩ | ⟨_, _, _, _, h⟩
 ·exact (az.lt g (aq.elim id fun h => by omega)).2
 ·exact h g aq
theorem bG.ok.kept {U cF : Nat → Prop} {ad aY : Nat → Nat} {w w' : World} {r : bG} (h : r.ok U ad w) (aj : ∀ y ∈ r.aS, y.aZ = true) (af : ∀ g, r.own g → w'.heap[g]? = w.heap[g]?) (bI : w.heap.size ≤ w'.heap.size) (dx : ∀ b, U b → b < w.heap.size → cF b ∧ w'.heap[b]? = w.heap[b]?) : r.ok cF aY w' := by
 rcases h with ⟨hs, xs, az, ak⟩ | ⟨hs, ax, hv, ⟨S, hS, aU⟩, bg⟩
 ·exact .inl ⟨hs, xs, H3 az fun g q => af g (.inl q), ak.map dx fun j x aa ae => absurd ae (AC.du (aj x aa) j)⟩
 ·exact .inr ⟨hs, ax, hv, ⟨S, hS, (S.frame w w' r.v aU fun b ab => af b (.inr ⟨hs, S, w, hS, aU, ab⟩)).1⟩, fun b ab => pW (bg b ab) bI⟩
structure uH (a8 : eH) (A : Nat → Prop) (s : aA) (ad : Nat → Nat) (w : World) (r : bG) : Prop where
 ok : r.ok (s.free A ad) ad w
 pw : ∀ y ∈ r.aS, y.aZ = true
 own : ∀ g, r.own g → ¬ A g ∧ ∀ k cs, s.mem k = some cs → ad k ≠ g
theorem uH.cells {a8 : eH} {A : Nat → Prop} {s : aA} {ad : Nat → Nat} {w : World} {r : bG} (h : uH a8 A s ad w r) (hs : 0 < r.sz) : ∃ xs, w.ownsRow 0 r.e r.sz r.v r.n xs ∧ bL (s.free A ad) ad w r.aS xs := h.ok.row hs
structure eA (a8 : eH) (bp : Nat → Prop) (R : aI) (s : aA) (a : Act) (w : World) (A : Nat → Prop) (ad : Nat → Nat) : Prop where
 up : ∀ b, a8.W.heap.size ≤ b → bp b
 sub : ∀ b, A b → bp b
 rel : Rel (lq a8 s ad w) A s ad a w
 oS : ∀ k cs, s.mem k = some cs → ¬ a8.F (ad k)
 below : iN a8 w
 rows : ∀ i r, R i = some r → uH a8 A s ad w r
 apart : ∀ i j r q, R i = some r → R j = some q → i ≠ j → ∀ g, r.own g → ¬ q.own g
 hot : ∀ i r g, R i = some r → r.own g → ¬ a8.F g ∧ bp g
 jH : rj a8 s ad
def pk (a8 : eH) (bp : Nat → Prop) (R : aI) (s : aA) (a : Act) (w : World) : Prop := ∃ A ad, eA a8 bp R s a w A ad
section
variable {P : Program} {a8 : eH} {bp A : Nat → Prop} {R : aI} {s s' : aA} {a a' : Act} {w w' : World} {ad aY : Nat → Nat} {o bo bw : Oper} {ops : Array Oper}
theorem bL.wG {U cF : Nat → Prop} {xs : List AC} {vs : List Value} (h : bL U ad w xs vs) (aj : ∀ y ∈ xs, y.aZ = true) (dx : ∀ b, U b → b < w.heap.size → cF b ∧ w'.heap[b]? = w.heap[b]?) : bL cF aY w' xs vs :=
 h.map dx fun j x aa ae => absurd ae (AC.du (aj x aa) j)
theorem eA.next (h : eA a8 bp R s a w A ad) (bZ : Rel (lq a8 s ad w) A s' aY a' w') : eA a8 bp R s' a' w' A aY := by
 have wX : ∀ k cs, s'.mem k = some cs → w.heap.size ≤ aY k ∨ ∃ j cs, s.mem j = some cs ∧ ad j = aY k := by
  intro k cs af;obtain ⟨_, _, _, _, hF⟩ := bZ.dn k cs af;rcases hz (aY k) w.heap.size with ak | ak
  ·exact .inr (Classical.byContradiction fun ax => hF ⟨ak, fun j cs ae e => ax ⟨j, cs, ae, e⟩⟩)
  ·exact .inl ak
 have jP : ∀ b, s.free A ad b → b < w.heap.size → s'.free A aY b ∧ w'.heap[b]? = w.heap[b]? := fun b ab ak => by
  refine ⟨⟨ab.1, fun k cs af e => ?_⟩, bZ.below.block b ⟨ak, fun k cs af => ab.2 k cs af⟩⟩;rcases wX k cs af with h1 | ⟨j, au, ae, bq⟩
  ·omega
  ·exact ab.2 j au ae (bq.trans e)
 refine ⟨h.up, h.sub, bZ.hot fun b ab => bZ.up b (ha bZ.below.size ab), fun k cs af ar => ?_, ⟨bZ.below.os.trans h.below.os, bZ.below.tape.trans h.below.tape, bZ.below.output.trans h.below.output, ha h.below.size bZ.below.size, fun b ar => ?_⟩, fun i r hi => ?_, h.apart, h.hot, Kg h.jH bZ⟩
 ·rcases wX k cs af with h1 | ⟨j, au, ae, e⟩
  ·have := a8.lt _ ar; have := h.below.size; omega
  ·rw [← e] at ar; exact h.oS j au ae ar
 ·exact (bZ.below.block b ⟨pW (a8.lt b ar) h.below.size, fun k cs af e => h.oS k cs af (by rw [e]; exact ar)⟩).trans (h.below.block b ar)
 ·obtain ⟨lu, aj, aq⟩ := h.rows i r hi;refine ⟨lu.kept aj (fun g q => bZ.below.block g ⟨lu.lt q, (aq g q).2⟩) bZ.below.size jP, aj, fun g q => ⟨(aq g q).1, fun k cs af he => ?_⟩⟩;rcases wX k cs af with h1 | ⟨j, au, ae, e⟩
  ·have := lu.lt q; omega
  ·exact (aq g q).2 j au ae (e.trans he)
theorem eA.put {d : Option Nat} {av : ah} {v : Value} (h : eA a8 bp R s a w A ad) (hd : ∀ d', d = some d' → d' < s.n) (hv : da (s.free A ad) ad w av v) : eA a8 bp R (s.put d av) (a.put d v) w A ad := h.next (h.rel.put hd hv)
theorem eA.le {ay : aI} (h : eA a8 bp R s a w A ad) (l : bB ay R) : eA a8 bp ay s a w A ad :=
 ⟨h.up, h.sub, h.rel, h.oS, h.below, fun i r hi => h.rows i r (l i r hi), fun i j r q hi ae => h.apart i j r q (l i r hi) (l j q ae), fun i r g hi => h.hot i r g (l i r hi), h.jH⟩
theorem eA.Ob (h : eA a8 bp R s a w A ad) (l : s.aQ s') : eA a8 bp R s' a w A ad := h.next (h.rel.le l)
inductive kO (P : Program) (R : aI) (look : Operand → Option ah) (o : Oper) : ah → Prop
 | len (i : Nat) (r : bG) (t z : Nat) (x : Operand) (hi : R i = some r) (bI : 0 < r.sz) (az : o.op = .call ⟨.builtin .len, #[x], #[t]⟩) (aa : look x = some (aR r.v)) (aB : sK P t = some z) : kO P R look o (aH r.n)
 | idx (i : Nat) (r : bG) (t : Nat) (x y : Operand) (gX : IntKind) (j : Int) (hi : R i = some r) (az : o.op = .indexAddr t x y) (aa : look x = some (aR r.v)) (ai : look y = some (aR (.int gX j))) (aD : 0 ≤ j) (h1 : j < r.n) (aB : sK P t = some r.sz) : kO P R look o (aR (jy r.v (j.toNat * r.sz)))
 | nT (i : Nat) (r : bG) (off t f ig : Nat) (x : Operand) (hi : R i = some r) (ax : 0 < r.n) (az : o.op = .fieldAddr t x f) (aa : look x = some (aR (jy r.v off))) (aB : tj P t f = some ig) : kO P R look o (aR (jy r.v (off + ig)))
 | load (i : Nat) (r : bG) (off lt : Nat) (x : Operand) (av : bz) (hi : R i = some r) (ax : 0 < r.n) (az : o.op = .load lt x) (aa : look x = some (aR (jy r.v off))) (hv : pick P lt r.aS off = some av) : kO P R look o (.w av)
 | sl (i : Nat) (r : bG) (t lo hi : Nat) (x : Operand) (uq sO : Option Operand) (c8 : R i = some r) (bI : 0 < r.sz) (az : o.op = .slice t x uq sO none) (aa : look x = some (aR r.v)) (ak : (uq = none ∧ lo = 0 ∧ sO ≠ none) ∨ ∃ y, uq = some y ∧ look y = some (aR (.int .i64 lo))) (aU : (sO = none ∧ hi = r.n) ∨ ∃ y, sO = some y ∧ look y = some (aR (.int .i64 hi))) (h1 : lo ≤ hi) (h2 : hi ≤ r.n) (aB : sK P t = some r.sz) : kO P R look o (aR (hc r.v r.sz lo hi))
 | zL (i : Nat) (r : bG) (t z lo hi : Nat) (x : Operand) (c8 : R i = some r) (bI : 0 < r.sz) (az : o.op = .call ⟨.builtin .len, #[x], #[t]⟩) (aa : look x = some (aR (hc r.v r.sz lo hi))) (aB : sK P t = some z) : kO P R look o (aH ((hi - lo : Nat) : Int))
 | zy (i : Nat) (r : bG) (t lo hi : Nat) (x y : Operand) (gX : IntKind) (j : Int) (c8 : R i = some r) (az : o.op = .indexAddr t x y) (aa : look x = some (aR (hc r.v r.sz lo hi))) (ai : look y = some (aR (.int gX j))) (aD : 0 ≤ j) (h1 : j < ((hi - lo : Nat) : Int)) (h2 : hi ≤ r.n) (aB : sK P t = some r.sz) : kO P R look o (aR (jy r.v ((lo + j.toNat) * r.sz)))
theorem kO.congr {look gx : Operand → Option ah} {av : ah} (h : kO P R look o av) (e : ∀ x ∈ o.op.operands, gx x = look x) : kO P R gx o av := by
 cases h with
 | len i r t z x hi bI az aa aB => exact .len i r t z x hi bI az (by rw [e x (by simp [az, Op.operands, Call.operands])]; exact aa) aB
 | idx i r t x y gX j hi az aa ai aD h1 aB => exact .idx i r t x y gX j hi az (by rw [e x (by simp [az, Op.operands])]; exact aa) (by rw [e y (by simp [az, Op.operands])]; exact ai) aD h1 aB
 | nT i r off t f ig x hi ax az aa aB => exact .nT i r off t f ig x hi ax az (by rw [e x (by simp [az, Op.operands])]; exact aa) aB
 | load i r off lt x av hi ax az aa hv => exact .load i r off lt x av hi ax az (by rw [e x (by simp [az, Op.operands])]; exact aa) hv
 | sl i r t lo hi x uq sO c8 bI az aa ak aU h1 h2 aB =>
  refine .sl i r t lo hi x uq sO c8 bI az (by rw [e x (by simp [az, Op.operands])]; exact aa) ?_ ?_ h1 h2 aB
  ·rcases ak with h | ⟨y, rfl, h⟩
   ·exact .inl h
   ·exact .inr ⟨y, rfl, by rw [e y (by simp [az, Op.operands])]; exact h⟩
  ·rcases aU with h | ⟨y, rfl, h⟩
   ·exact .inl h
   ·exact .inr ⟨y, rfl, by rw [e y (by simp [az, Op.operands])]; exact h⟩
 | zL i r t z lo hi x c8 bI az aa aB => exact .zL i r t z lo hi x c8 bI az (by rw [e x (by simp [az, Op.operands, Call.operands])]; exact aa) aB
 | zy i r t lo hi x y gX j c8 az aa ai aD h1 h2 aB => exact .zy i r t lo hi x y gX j c8 az (by rw [e x (by simp [az, Op.operands])]; exact aa) (by rw [e y (by simp [az, Op.operands])]; exact ai) aD h1 h2 aB
theorem kO.rows {ay : aI} {look : Operand → Option ah} {av : ah} (h : kO P R look o av) (l : bB R ay) : kO P ay look o av := by
 cases h with
 | len i r t z x hi bI az aa aB => exact .len i r t z x (l _ _ hi) bI az aa aB
 | idx i r t x y gX j hi az aa ai aD h1 aB => exact .idx i r t x y gX j (l _ _ hi) az aa ai aD h1 aB
 | nT i r off t f ig x hi ax az aa aB => exact .nT i r off t f ig x (l _ _ hi) ax az aa aB
 | load i r off lt x av hi ax az aa hv => exact .load i r off lt x av (l _ _ hi) ax az aa hv
 | sl i r t lo hi x uq sO c8 bI az aa ak aU h1 h2 aB => exact .sl i r t lo hi x uq sO (l _ _ c8) bI az aa ak aU h1 h2 aB
 | zL i r t z lo hi x c8 bI az aa aB => exact .zL i r t z lo hi x (l _ _ c8) bI az aa aB
 | zy i r t lo hi x y gX j c8 az aa ai aD h1 h2 aB => exact .zy i r t lo hi x y gX j (l _ _ c8) az aa ai aD h1 h2 aB
theorem ad9 {U : Nat → Prop} {ty : TypeId} {aS : List AC} {off : Nat} {av : bz} {xs : List Value} {b : Addr} (hv : pick P ty aS off = some av) (ak : bL U ad w aS xs) (aj : ∀ j u, xs[j]? = some u → w.cell? (b.add j) = some u) :
  ∃ v, (loadVar ty (b.add off)).run P w = .ok v w ∧ fX U ad w av v := by
 unfold pick at hv
 have key : ∀ d, P.underlying ty = some d → ((∃ bi, d = .struct bi) ∨ ∃ n e, d = .array n e) → ((P.info? ty).bind fun i => if off + i.size ≤ aS.length then some (bz.agg ((aS.drop off).take i.size)) else none) = some av → ∃ v, (loadVar ty (b.add off)).run P w = .ok v w ∧ fX U ad w av v := by
  intro d hu hd h;cases hi : P.info? ty with
  | none => rw [hi] at h; cases h
  | some i =>
   rw [hi] at h;simp only [ks] at h
   split at h
   ·rename_i hle;cases h;have hs := ak.sub off i.size;have hlen : ((xs.drop off).take i.size).length = i.size := by have := ak.1; simp; omega
    refine ⟨_, IC hu hd hi hlen (fun j v ae => ?_), _, rfl, hs⟩;have jQ : j < i.size := by rw [← hlen]; exact (bM.1 ae).1
    rw [fE jQ, fV] at ae;rw [yl];exact aj _ v ae
   ·cases h
 have Hr : ∀ d, P.underlying ty = some d → (∀ bi, d ≠ .struct bi) → (∀ n e, d ≠ .array n e) → (aS[off]?).map bz.one = some av → ∃ v, (loadVar ty (b.add off)).run P w = .ok v w ∧ fX U ad w av v := by
  intro d hu h1 h2 h;cases aa : aS[off]? with
  | none => rw [aa] at h; cases h
  | some x =>
   rw [aa] at h;cases h;have bg : off < xs.length := by rw [← ak.1]; exact (bM.1 aa).1
   have hv := bN bg;exact ⟨_, ID hu h1 h2 (aj off _ hv), ak.2 off x _ aa hv⟩
 cases hu : P.underlying ty with
 | none => rw [hu] at hv; cases hv
 | some d =>
  rw [hu] at hv;cases d <;> first | exact key _ hu (.inl ⟨_, rfl⟩) hv | exact key _ hu (.inr ⟨_, _, rfl⟩) hv | exact Hr _ hu (fun _ h => by cases h) (fun _ _ h => by cases h) hv
theorem uH.slice {r : bG} (h : uH a8 A s ad w r) (bI : 0 < r.sz) : ∃ eZ c, r.v = .slice eZ r.n c ∧ (0 < r.n → ∃ g, eZ = some ⟨g, 0, none⟩) := by
 obtain ⟨xs, az, _⟩ := h.cells bI;rcases az.2 with ⟨e, cX⟩ | ⟨g, cap, cur, e, _⟩
 ·exact ⟨none, 0, by rw [e, cX], fun h => by omega⟩
 ·exact ⟨_, _, e, fun _ => ⟨g, rfl⟩⟩
theorem uH.Eb {r : bG} (h : uH a8 A s ad w r) (bI : 0 < r.sz) : ∃ eZ c, r.v = .slice eZ r.n c ∧ r.n ≤ c ∧ (0 < r.n → ∃ g, eZ = some ⟨g, 0, none⟩) := by
 obtain ⟨xs, az, _⟩ := h.cells bI;rcases az.2 with ⟨e, cX⟩ | ⟨g, cap, cur, e, _, _, ep, _⟩
 ·exact ⟨none, 0, by rw [e, cX], by omega, fun h => by omega⟩
 ·exact ⟨_, _, e, ep, fun _ => ⟨g, rfl⟩⟩
theorem Q6 {g n c z lo hi : Nat} (h1 : lo < hi) (h2 : hi ≤ c) : hc (.slice (some ⟨g, 0, none⟩) n c) z lo hi = .slice (some ((⟨g, 0, none⟩ : Addr).add (lo * z))) (hi - lo) (c - lo) := by
 unfold hc sliced;simp only;rw [if_neg (by omega)]; rfl
theorem kO.sound {av : ah} (h : kO P R s.look o av) (aw : eA a8 bp R s a w A ad) : ∃ v, (execOp a.eval o).run P w = .ok (.value v) w ∧ da (s.free A ad) ad w av v := by
 cases h with
 | len i r t z x hi bI az aa aB =>
  obtain ⟨eZ, c, e, _⟩ := (aw.rows i r hi).slice bI;have hv : a.eval x = r.v := (aw.rel.look aa).1;obtain ⟨el, eE, hu, _, _⟩ := mj aB;have eT : P.underlying t = some (.slice (P.elem t)) := by rw [jJ hu]; exact hu
  refine ⟨.int .i64 r.n, ?_, rfl, rfl⟩;have em : (#[x] : Array Operand).map a.eval = #[.slice eZ r.n c] := by simp [hv, e]
  simp only [execOp, az, resolve, em, Sem.run_bind, Sem.run_pure, Result.andThen_ok, invoke, builtin];rw [run_len_slice w t _ eZ r.n c eT];rfl
 | idx i r t x y gX j hi az aa ai aD h1 aB =>
  obtain ⟨eZ, c, e, de⟩ := (aw.rows i r hi).slice ((aw.rows i r hi).ok.pos (by omega));obtain ⟨g, rfl⟩ := de (by omega);have hv : a.eval x = r.v := (aw.rel.look aa).1;have ae : a.eval y = .int gX j := (aw.rel.look ai).1;obtain ⟨el, eE, hu, c8, hs⟩ := mj aB;refine ⟨jy r.v (j.toNat * r.sz), ?_, rfl, by rw [e]; rfl⟩;rw [e] at hv ⊢;simp only [execOp, az, Instr.indexAt, hv, ae, asIntOf, Sem.run_bind, Sem.run_pure, Result.andThen_ok, run_underlying hu, hB c8, if_pos (And.intro aD h1), hs, jy]
 | nT i r off t f ig x hi ax az aa aB =>
  obtain ⟨eZ, c, e, de⟩ := (aw.rows i r hi).slice ((aw.rows i r hi).ok.pos (by omega));obtain ⟨g, rfl⟩ := de ax;have hv : a.eval x = jy r.v off := (aw.rel.look aa).1;rw [e] at hv ⊢;unfold tj at aB
  split at aB
  ·rename_i bi hu;cases ar : bi[f]? with
   | none => rw [ar] at aB; cases aB
   | some fd =>
    rw [ar] at aB;simp only [ks] at aB;cases hi : P.info? fd.type with
    | none => rw [hi] at aB; cases aB
    | some eE =>
     rw [hi] at aB;simp only [ks] at aB
     split at aB
     ·cases aB
     ·rename_i bU;cases aB;refine ⟨_, ?_, rfl, rfl⟩;simp only [execOp, az, Instr.fieldAt, hv, jy, Instr.sureAddr, Sem.run_bind, Sem.run_pure, Result.andThen_ok, run_underlying hu, ar, fieldPlace, hB hi, if_neg bU, yl]
  ·cases aB
 | load i r off lt x av hi ax az aa hv =>
  have c0 := aw.rows i r hi;obtain ⟨eZ, c, e, de⟩ := c0.slice (c0.ok.pos ax);obtain ⟨g, rfl⟩ := de ax;have CF : a.eval x = jy r.v off := (aw.rel.look aa).1;obtain ⟨xs, hn, ak⟩ := c0.cells (c0.ok.pos ax);obtain ⟨v, h1, h2⟩ := ad9 hv ak (hn.cells (g := g) (by rw [e]; rfl));rw [e] at CF;refine ⟨v, ?_, h2⟩;simp only [execOp, az, Instr.loadAt, CF, jy, Instr.sureAddr, Sem.run_bind, Sem.run_pure, Result.andThen_ok, h1]
 | sl i r t lo hi x uq sO c8 bI az aa ak aU h1 h2 aB =>
  obtain ⟨eZ, c, e, ep, _⟩ := (aw.rows i r c8).Eb bI;have hv : a.eval x = r.v := (aw.rel.look aa).1;rw [e] at hv;obtain ⟨el, eE, hu, e4, hs⟩ := mj aB;have eT : P.underlying t = some (.slice (P.elem t)) := by rw [jJ hu]; exact hu
  have kk : (hc r.v r.sz lo hi).oneCell' = true := by rw [e]; rfl
  refine ⟨_, ?_, rfl, kk⟩;rw [e];rcases ak with ⟨rfl, rfl, bU⟩ | ⟨y, rfl, ai⟩
  ·rcases aU with ⟨rfl, _⟩ | ⟨y, rfl, ai⟩
   ·exact absurd rfl bU
   ·have jK : a.eval y = .int .i64 hi := (aw.rel.look ai).1;simp only [execOp, az, hv, gL, q5, jK, Sem.run_bind, run_sliceAt_slice w t _ _ _ _ eT, run_slice_h w t eZ r.n c eT .i64 hi (by omega) (by omega), jJ hu, hB e4, Result.andThen_ok, hs, Sem.run_pure, kK, hc]
  ·have jK : a.eval y = .int .i64 lo := (aw.rel.look ai).1;rcases aU with ⟨rfl, rfl⟩ | ⟨y', rfl, Ze⟩
   ·simp only [execOp, az, hv, gL, q5, jK, Sem.run_bind, run_sliceAt_slice w t _ _ _ _ eT, run_slice_l w t eZ r.n c eT .i64 lo (by omega) (by omega), jJ hu, hB e4, Result.andThen_ok, hs, Sem.run_pure, kK, hc]
   ·have Ww : a.eval y' = .int .i64 hi := (aw.rel.look Ze).1;simp only [execOp, az, hv, gL, q5, jK, Ww, Sem.run_bind, run_sliceAt_slice w t _ _ _ _ eT, run_slice_lh w t eZ r.n c eT .i64 .i64 lo hi (by omega) (by omega) (by omega), jJ hu, hB e4, Result.andThen_ok, hs, Sem.run_pure, kK, hc]
 | zL i r t z lo hi x c8 bI az aa aB =>
  obtain ⟨eZ, c, e, _, _⟩ := (aw.rows i r c8).Eb bI;have hv : a.eval x = hc r.v r.sz lo hi := (aw.rel.look aa).1;obtain ⟨el, eE, hu, _, _⟩ := mj aB;have eT : P.underlying t = some (.slice (P.elem t)) := by rw [jJ hu]; exact hu
  refine ⟨.int .i64 ((hi - lo : Nat) : Int), ?_, rfl, rfl⟩;rw [e] at hv;unfold hc sliced at hv;simp only at hv;have em : (#[x] : Array Operand).map a.eval = #[.slice (if c = lo then eZ else eZ.map (·.add (lo * r.sz))) (hi - lo) (c - lo)] := by simp only [List.map_toArray, j4, List.map_nil, hv]
  simp only [execOp, az, resolve, em, Sem.run_bind, Sem.run_pure, Result.andThen_ok, invoke, builtin];rw [run_len_slice w t _ _ _ _ eT];rfl
 | zy i r t lo hi x y gX j c8 az aa ai aD h1 h2 aB =>
  obtain ⟨eZ, c, e, ep, de⟩ := (aw.rows i r c8).Eb ((aw.rows i r c8).ok.pos (by omega));obtain ⟨g, rfl⟩ := de (by omega);have hv : a.eval x = hc r.v r.sz lo hi := (aw.rel.look aa).1;have ae : a.eval y = .int gX j := (aw.rel.look ai).1;obtain ⟨el, eE, hu, e4, hs⟩ := mj aB;rw [e, Q6 (by omega) (by omega)] at hv;refine ⟨jy r.v ((lo + j.toNat) * r.sz), ?_, rfl, by rw [e]; rfl⟩;rw [e];simp only [execOp, az, Instr.indexAt, hv, ae, asIntOf, Sem.run_bind, Sem.run_pure, Result.andThen_ok, run_underlying hu, hB e4, if_pos (And.intro aD h1), hs, jy, yl, kq]
theorem aft (w : World) (te As ty elem : TypeId) (g o qu yx z : Nat) (a : Addr) (q9 Ar : Nat) (cur : Array Value) (t : TypeId) (cs : List Value)
  (hu : P.underlying te = some (.slice elem)) (hs : (P.info? elem).map (·.size) = some z)
  (aq : w.heap[g]? = some (.cells cur t (0, 0))) (ax : cs.length = Nat.min q9 qu * z)
  (G2 : ∀ j v, cs[j]? = some v → w.cell? (a.add j) = some v) (w0 : o + cs.length ≤ cur.size) (h1 : ∀ v ∈ cs, v.oneCell' = true) :
  (Builtin.copy_ #[te, As] ty #[.slice (some ⟨g, o, none⟩) qu yx, .slice (some a) q9 Ar]).run P w =
   .ok (goInt (Nat.min q9 qu)) (w.setRow g (cur.toList.take o ++ cs ++ cur.toList.drop (o + cs.length)).toArray) := by
 have ak := run_loadCells_list (P := P) w a cs G2;have iW := run_storeCells_at P g o t cs 0 cur w aq (by simpa using w0) h1;cases al : P.info? elem with
 | none => simp [al] at hs
 | some i =>
  have hi : i.size = z := by simpa [al] using hs
  simp [Builtin.copy_, run_underlying hu, Builtin.lenOf, Builtin.firstCells, sizeOf, typeInfo, al, hi, ← ax, ak, iW]
theorem afs (w : World) (te As ty elem : TypeId) (d a : Option Addr) (qu yx q9 Ar z : Nat) (hu : P.underlying te = some (.slice elem)) (hs : (P.info? elem).map (·.size) = some z) (ax : Nat.min q9 qu = 0) :
  (Builtin.copy_ #[te, As] ty #[.slice d qu yx, .slice a q9 Ar]).run P w = .ok (goInt 0) w := by
 cases al : P.info? elem with
 | none => simp [al] at hs
 | some i =>
  have ak : ∀ (x : Addr), (loadCells x 0).run P w = .ok #[] w := fun x => by simpa using run_loadCells_list (P := P) w x [] (by simp)
  cases d <;> cases a <;> simp [Builtin.copy_, run_underlying hu, Builtin.lenOf, Builtin.firstCells, sizeOf, typeInfo, al, ax, storeCells, ak]
theorem agD {cur us : List Value} {off N : Nat} (h : off + us.length ≤ N) (fi : N ≤ cur.length) : (cur.take off ++ us ++ cur.drop (off + us.length)).take N = (cur.take N).take off ++ us ++ (cur.take N).drop (off + us.length) := by
 apply List.ext_getElem?;intro j;have t1 : (cur.take off).length = off := by rw [dK]; omega
 have t2 : ((cur.take N).take off).length = off := by rw [dK, dK]; omega
 by_cases ae : j < N
 ·rw [fE ae]
  by_cases qN : j < off
  ·rw [iu, gd (by rw [t1]; exact qN), fE qN, iu, gd (by rw [t2]; exact qN), fE qN, fE ae]
  ·by_cases CQ : j < off + us.length
   ·rw [iu, gz (by omega), gd (by omega), iu, gz (by omega), gd (by omega), t1, t2]
   ·rw [gz (by simp only [cJ, t1]; omega), gz (by simp only [cJ, t2]; omega), fV, fV];simp only [cJ, t1, t2];rw [fE (by omega)]
 ·rw [k7 (by rw [dK]; omega), k7];simp only [cJ, dK, h3];omega
abbrev Be : Value → Prop := fun v => v.oneCell' = true
def iQ (v : Value) (z lo hi : Nat) (u : Value) : Prop := (∃ eZ c, u = .slice eZ (hi - lo) c) ∧ (lo < hi → ∃ g n c, v = .slice (some ⟨g, 0, none⟩) n c ∧ hi ≤ c ∧ u = .slice (some ⟨g, lo * z, none⟩) (hi - lo) (c - lo))
theorem Bo (g o k : Nat) : (⟨g, o, none⟩ : Addr).add k = ⟨g, o + k, none⟩ := by unfold Addr.add; split <;> simp_all
theorem iQ.all {A : Option Addr} {n c : Nat} (z : Nat) (h1 : n ≤ c) (h2 : 0 < n → ∃ g, A = some ⟨g, 0, none⟩) : iQ (.slice A n c) z 0 n (.slice A n c) :=
 ⟨⟨A, c, rfl⟩, fun h => by obtain ⟨g, rfl⟩ := h2 h; exact ⟨g, n, c, rfl, h1, by simp⟩⟩
theorem iQ.sl {v u : Value} {z lo hi k m : Nat} (h : iQ v z lo hi u) (hm : hi - lo = m) (af : k ≤ m) (ak : lo ≤ hi) : iQ v z (lo + k) hi (hc u z k m) := by
 subst hm;obtain ⟨⟨eZ, c, e⟩, h2⟩ := h;refine ⟨⟨_, _, by rw [e]; unfold hc sliced; rw [Nat.sub_sub]⟩, fun bg => ?_⟩;obtain ⟨g, n, c', aF, an, aM⟩ := h2 (by omega);refine ⟨g, n, c', aF, an, ?_⟩;rw [aM];unfold hc sliced;simp only;rw [if_neg (by omega), gL, Bo, Nat.sub_sub, Nat.sub_sub, kq]
theorem iQ.agd {v u : Value} {z lo hi k : Nat} (h : iQ v z lo hi u) (af : lo + k ≤ hi) : iQ v z lo (lo + k) (hc u z 0 k) := by
 obtain ⟨⟨eZ, c, e⟩, h2⟩ := h;refine ⟨⟨_, _, by rw [e]; unfold hc sliced; rw [show lo + k - lo = k - 0 by omega]⟩, fun bg => ?_⟩;obtain ⟨g, n, c', aF, an, aM⟩ := h2 (by omega);refine ⟨g, n, c', aF, by omega, ?_⟩;rw [aM];unfold hc sliced;simp only;rw [if_neg (by omega), gL, Bo];simp
def AY (R : aI) (look : Operand → Option ah) (y : Operand) (z m : Nat) (news : List AC) : Prop :=
 look y = some (cy z m news) ∨ ∃ j q lo u, R j = some q ∧ q.sz = z ∧ look y = some (aR u) ∧ iQ q.v z lo (lo + m) u ∧ lo + m ≤ q.n ∧ news = (q.aS.drop (lo * z)).take (m * z)
inductive kP (P : Program) (R : aI) (look : Operand → Option ah) (o : Oper) : (Value → aI) → (Value → Prop) → Prop
 | rE (i : Nat) (r : bG) (tt bytes m : Nat) (gP hD : Operand) (news : List AC) (hi : R i = some r) (az : o.op = .call ⟨.builtin .append, #[gP, hD], #[tt, tt]⟩) (aB : vL P tt r.e r.sz bytes = true) (aa : look gP = some (aR r.v)) (ai : look hD = some (cy r.sz m news)) (h1 : r.n + m ≤ maxLen) (h2 : (r.n + m) * bytes ≤ 140737488355328) (aj : ∀ y ∈ news, y.aZ = true) :
   kP P R look o (fun v' => bK R i ⟨r.e, r.sz, v', r.n + m, r.aS ++ news⟩) Be
 | new (i t n e sz bytes : Nat) (parts : List (Nat × Operand)) (vs : List Value) (zs : List (Nat × bz)) (r : List AC) (hi : R i = none) (az : o.op = .buildSlice t n parts.toArray) (aB : vL P t e sz bytes = true) (dN : xP P t = some vs) (aP : nw look parts = some zs) (ab : qt (xB n sz) (h5 n sz vs) zs = some r)
   (h1 : (vs.all fun v => v.oneCell') = true) (hs : vs.length = sz) (h2 : n * sz ≤ 16777216) (an : n ≤ maxLen) (ap : r.length = n * sz) (cZ : ∀ y ∈ r, y.aZ = true) : kP P R look o (fun v' => bK R i ⟨e, sz, v', n, r⟩) Be
 | make (i t l c e sz bytes : Nat) (x y : Operand) (oP lA : IntKind) (vs : List Value) (hi : R i = none) (az : o.op = .makeSlice t x y) (aB : vL P t e sz bytes = true) (dN : xP P t = some vs) (aa : look x = some (aR (.int oP l))) (ai : look y = some (aR (.int lA c))) (ak : l ≤ c) (h1 : (vs.all fun v => v.oneCell') = true) (hs : vs.length = sz) (h2 : bytes * c ≤ 281474976710656) (an : c ≤ maxLen) : kP P R look o (fun v' => bK R i ⟨e, sz, v', l, h5 l sz vs⟩) Be
 | copy (i : Nat) (r : bG) (tt t2 m lo hi : Nat) (x y : Operand) (news : List AC) (c8 : R i = some r) (bI : 0 < r.sz) (az : o.op = .call ⟨.builtin .copy, #[x, y], #[tt, t2]⟩) (aB : sK P tt = some r.sz) (aa : (look x = some (aR r.v) ∧ lo = 0 ∧ hi = r.n) ∨ look x = some (aR (hc r.v r.sz lo hi)) ∨ ∃ u, look x = some (aR u) ∧ iQ r.v r.sz lo hi u) (ai : AY R look y r.sz m news) (h1 : lo ≤ hi) (h2 : hi ≤ r.n) (aj : ∀ y ∈ news, y.aZ = true) :
   kP P R look o (fun _ => bK R i ⟨r.e, r.sz, r.v, r.n, eD r.aS (lo * r.sz) (news.take (Nat.min m (hi - lo) * r.sz))⟩) (fun v' => v' = .int .i64 ((Nat.min m (hi - lo) : Nat) : Int))
theorem Oh {look gx : Operand → Option ah} : ∀ (parts : List (Nat × Operand)), (∀ p ∈ parts, gx p.2 = look p.2) → nw gx parts = nw look parts
 | [], _ => rfl
 | (i, x) :: parts, h => by
  simp only [nw];rw [h (i, x) (by simp), Oh parts fun p hp => h p (by simp [hp])]
theorem kP.congr {look gx : Operand → Option ah} {f : Value → aI} {iF : Value → Prop} (h : kP P R look o f iF) (e : ∀ x ∈ o.op.operands, gx x = look x) : kP P R gx o f iF := by
 cases h with
 | rE i r tt bytes m gP hD news hi az aB aa ai h1 h2 aj =>
  exact .rE i r tt bytes m gP hD news hi az aB (by rw [e gP (by simp [az, Op.operands, Call.operands])]; exact aa) (by rw [e hD (by simp [az, Op.operands, Call.operands])]; exact ai) h1 h2 aj
 | new i t n el sz bytes parts vs zs r hi az aB dN aP ab h1 hs h2 an ap cZ =>
  refine .new i t n el sz bytes parts vs zs r hi az aB dN ?_ ab h1 hs h2 an ap cZ;rw [Oh parts fun p hp => e p.2 ?_]
  ·exact aP
  ·simp only [az, Op.operands, List.mem_toArray, iv];exact ⟨p, hp, rfl⟩
 | make i t l c el sz bytes x y oP lA vs hi az aB dN aa ai ak h1 hs h2 an =>
  exact .make i t l c el sz bytes x y oP lA vs hi az aB dN (by rw [e x (by simp [az, Op.operands])]; exact aa) (by rw [e y (by simp [az, Op.operands])]; exact ai) ak h1 hs h2 an
 | copy i r tt t2 m lo hi x y news c8 bI az aB aa ai h1 h2 aj =>
  exact .copy i r tt t2 m lo hi x y news c8 bI az aB (by rw [e x (by simp [az, Op.operands, Call.operands])]; exact aa) (by unfold AY; rw [e y (by simp [az, Op.operands, Call.operands])]; exact ai) h1 h2 aj
theorem bL.append {U : Nat → Prop} {xs aS : List AC} {vs us : List Value} (h : bL U ad w xs vs) (k : bL U ad w aS us) : bL U ad w (xs ++ aS) (vs ++ us) := by
 refine ⟨by rw [cJ, cJ, h.1, k.1], fun i x v aa hv => ?_⟩;rcases hz i xs.length with ak | ak
 ·rw [gd ak] at aa;rw [gd (by rw [← h.1]; exact ak)] at hv;exact h.2 i x v aa hv
 ·rw [gz ak] at aa;rw [gz (by rw [← h.1]; exact ak), ← h.1] at hv;exact k.2 _ x v aa hv
theorem eA.FZ {i : Nat} {r : bG} {w2 : World} {xs : List Value} (h : eA a8 bp R s a w A ad) (ir : Option Nat) (hold : ∀ g, ir = some g → ∃ q, R i = some q ∧ q.own g) (bI : 0 < r.sz) (gi : w.grownBy w2 ir)
  (ap : w2.ownsRow 0 r.e r.sz r.v r.n xs) (kf : ∀ g, r.v.ownBlock = some g → ir = some g ∨ w.heap.size ≤ g) (ak : bL (s.free A ad) ad w r.aS xs) (aj : ∀ y ∈ r.aS, y.aZ = true) :
  ∃ dR, eA a8 bp (bK R i r) s a w2 dR ad := by
 have pJ : ∀ b, s.free A ad b → b < w.heap.size → w2.heap[b]? = w.heap[b]? := fun b ab e1 => gi.block b e1 fun e => by
  obtain ⟨q, al, aq⟩ := hold b e.symm;exact ((h.rows i q al).own b aq).1 ab.1
 have nn : ∀ k cs, s.mem k = some cs → w2.heap[ad k]? = w.heap[ad k]? := fun k cs af => gi.block _ (h.rel.lt af) fun e => by
  obtain ⟨q, al, aq⟩ := hold _ e.symm;exact ((h.rows i q al).own _ aq).2 k cs af rfl
 have yL : Rel (lq a8 s ad w2) (fun b => (A b ∧ b < w.heap.size) ∨ (w2.heap.size ≤ b)) s ad a w2 :=
  h.rel.uM (fun b c4 e1 => ⟨.inl ⟨c4, e1⟩, gi.block b e1 fun e => by
   obtain ⟨q, al, aq⟩ := hold b e.symm;exact ((h.rows i q al).own b aq).1 c4⟩) (fun k cs af => ⟨nn k cs af, fun ar => ar.2 k cs af rfl⟩) (iN.refl _) (fun b ab => .inr ab) (u5 _ _ _)
 have jP : ∀ b, s.free A ad b → b < w.heap.size → s.free (fun b => (A b ∧ b < w.heap.size) ∨ w2.heap.size ≤ b) ad b ∧ w2.heap[b]? = w.heap[b]? := fun b ab e1 => ⟨⟨.inl ⟨ab.1, e1⟩, ab.2⟩, pJ b ab e1⟩
 have main : eA a8 bp (bK R i r) s a w2 (fun b => (A b ∧ b < w.heap.size) ∨ w2.heap.size ≤ b) ad := by
  refine ⟨h.up, ?_, yL, h.oS, ⟨gi.os.trans h.below.os, gi.tape.trans h.below.tape, gi.output.trans h.below.output, ha h.below.size gi.size, fun b ar => ?_⟩, fun j q ae => ?_, fun j k q bX ae af kZ g aq => ?_, fun j q g ae aq => ?_, h.jH⟩
  ·rintro b (ab | ab)
   ·exact h.sub b ab.1
   ·exact h.up b (by have := h.below.size; have := gi.size; omega)
  ·refine (gi.block b (pW (a8.lt b ar) h.below.size) fun e => ?_).trans (h.below.block b ar);obtain ⟨q, al, aq⟩ := hold b e.symm;exact (h.hot i q b al aq).1 ar
  ·by_cases e : j = i
   ·subst e;rw [cx] at ae;cases ae;refine ⟨.inl ⟨bI, xs, ap, ak.wG aj jP⟩, aj, fun g aq => ?_⟩
    replace aq := bG.oW aq bI
    refine ⟨?_, fun k cs af => ?_⟩
    ·rintro (ab | ab)
     ·rcases kf g aq with q | q
      ·obtain ⟨p, hp, pL⟩ := hold g q;exact ((h.rows j p hp).own g pL).1 ab.1
      ·omega
     ·have := (ap.lt g aq).2; omega
    ·rcases kf g aq with q | q
     ·obtain ⟨p, hp, pL⟩ := hold g q;exact ((h.rows j p hp).own g pL).2 k cs af
     ·have := h.rel.lt af; omega
   ·rw [cl _ _ e] at ae;obtain ⟨lu, Np, Nq⟩ := h.rows j q ae;refine ⟨lu.kept Np (fun g aq => gi.block g (lu.lt aq) fun bq => ?_) gi.size jP, Np, fun g aq => ⟨?_, (Nq g aq).2⟩⟩
    ·obtain ⟨p, hp, pL⟩ := hold g bq.symm;exact h.apart j i q p ae hp e g aq pL
    ·rintro (ab | ab)
     ·exact (Nq g aq).1 ab.1
     ·have := lu.lt aq; have := gi.size; omega
  ·have Pu : ∀ j q, R j = some q → ∀ g, q.own g → g < w.heap.size := fun j q ae g aq => (h.rows j q ae).ok.lt aq
   by_cases e : j = i
   ·subst e;rw [cx] at ae;cases ae;rw [cl _ _ (Ne.symm kZ)] at af;intro eo;rcases kf g (bG.oW aq bI) with p | p
    ·obtain ⟨eB, hp, pL⟩ := hold g p;exact h.apart j k eB bX hp af kZ g pL eo
    ·have := Pu k bX af g eo; omega
   ·rw [cl _ _ e] at ae
    by_cases aM : k = i
    ·subst aM;rw [cx] at af;cases af;intro eo;rcases kf g (bG.oW eo bI) with p | p
     ·obtain ⟨eB, hp, pL⟩ := hold g p;exact h.apart j k q eB ae hp kZ g aq pL
     ·have := Pu j q ae g aq; omega
    ·rw [cl _ _ aM] at af;exact h.apart j k q bX ae af kZ g aq
  ·by_cases e : j = i
   ·subst e;rw [cx] at ae;cases ae;rcases kf g (bG.oW aq bI) with p | p
    ·obtain ⟨eB, hp, pL⟩ := hold g p;exact h.hot j eB g hp pL
    ·exact ⟨fun ar => by have := a8.lt g ar; have := h.below.size; omega, h.up g (by have := h.below.size; omega)⟩
   ·rw [cl _ _ e] at ae;exact h.hot j q g ae aq
 exact ⟨_, main⟩
theorem eA.grown {i : Nat} {r : bG} {w2 : World} {xs : List Value} (h : eA a8 bp R s a w A ad) (ir : Option Nat) (hold : ∀ g, ir = some g → ∃ q, R i = some q ∧ q.own g) (bI : 0 < r.sz) (gi : w.grownBy w2 ir) (kk : r.v.oneCell' = true)
  (ap : w2.ownsRow 0 r.e r.sz r.v r.n xs) (kf : ∀ g, r.v.ownBlock = some g → ir = some g ∨ w.heap.size ≤ g) (ak : bL (s.free A ad) ad w r.aS xs) (aj : ∀ y ∈ r.aS, y.aZ = true) {d : Nat} (hd : d < s.n) :
  ∃ dR, eA a8 bp (bK R i r) (s.put (some d) (aR r.v)) (a.put (some d) r.v) w2 dR ad := by
 obtain ⟨dR, main⟩ := h.FZ ir hold bI gi ap kf ak aj;exact ⟨dR, main.put (d := some d) (fun d' e => by cases e; exact hd) ⟨rfl, kk⟩⟩
theorem cc.Fm {U : Nat → Prop} {z n : Nat} {xs : List AC} {v : Value} (h : da U ad w (cy z n xs) v) (ax : 0 < n) : ∃ b c vs, v = .slice (some b) n c ∧ n ≤ c ∧ xs.length = n * z ∧ (∀ (j : Nat) u, vs[j]? = some u → w.cell? (b.add j) = some u) ∧ bL U ad w xs vs := by
 obtain ⟨⟨eZ, c, e, aj, ak, de⟩, dx⟩ := h;obtain ⟨b, vs, rfl, dT⟩ := de ax;exact ⟨b, c, vs, e, aj, ak, dT.at_, dT.Iz fun bT c4 => dx bT ⟨c, b, e, ax, c4⟩⟩
theorem AY.spec {y : Operand} {z m : Nat} {news : List AC} (h : AY R s.look y z m news) (aP : 0 < z) (aw : eA a8 bp R s a w A ad) : (∃ rk uT, a.eval y = .slice rk m uT) ∧ news.length = m * z ∧
  (0 < m → ∃ b c vs, a.eval y = .slice (some b) m c ∧ (∀ (j : Nat) u, vs[j]? = some u → w.cell? (b.add j) = some u) ∧ bL (s.free A ad) ad w news vs) := by
 rcases h with ai | ⟨j, q, lo, u, ae, rfl, ai, ⟨⟨eZ, c, rQ⟩, hu⟩, ax, rfl⟩
 ·have zu := aw.rel.look ai;obtain ⟨⟨rk, uT, ex, yV, jS, F2⟩, MC⟩ := id zu;refine ⟨⟨rk, uT, ex⟩, jS, fun hm => ?_⟩;obtain ⟨b, c, vs, lT, _, _, gD, pM⟩ := cc.Fm zu hm;exact ⟨b, c, vs, lT, gD, pM⟩
 ·have lT : a.eval y = u := (aw.rel.look ai).1;obtain ⟨xs, az, ak⟩ := (aw.rows j q ae).cells aP;have aiw : q.aS.length = q.n * q.sz := by rw [ak.1]; exact az.1
  have w0 : lo * q.sz + m * q.sz ≤ q.n * q.sz := by rw [← kq]; exact ju _ ax
  refine ⟨⟨eZ, c, by rw [lT, rQ, Nat.add_sub_cancel_left]⟩, by rw [dK, h3]; omega, fun hm => ?_⟩;obtain ⟨g, n', c', aF, an, aM⟩ := hu (by omega);refine ⟨⟨g, lo * q.sz, none⟩, _, (xs.drop (lo * q.sz)).take (m * q.sz), by rw [lT, aM, Nat.add_sub_cancel_left], fun i x aa => ?_, ak.sub _ _⟩
  have hi : i < m * q.sz := by
   have := (bM.1 aa).1;rw [dK] at this;omega
  rw [fE hi, fV] at aa;have := az.cells (g := g) (by rw [aF]; rfl) _ x aa;rw [Bo] at this ⊢;simpa using this
theorem kP.out {f : Value → aI} {iF : Value → Prop} (h : kP P R s.look o f iF) : ∃ v', iF v' := by
 cases h with
 | copy => exact ⟨_, rfl⟩
 | _ => exact ⟨.bool false, rfl⟩
theorem kP.sound {f : Value → aI} {iF : Value → Prop} {d : Nat} (h : kP P R s.look o f iF) (aw : eA a8 bp R s a w A ad) (hd : d < s.n) : ∃ v' w2 dR, (execOp a.eval o).run P w = .ok (.value v') w2 ∧ iF v' ∧ eA a8 bp (f v') (s.put (some d) (aR v')) (a.put (some d) v') w2 dR ad := by
 cases h with
 | rE i r tt bytes m gP hD news hi az aB aa ai h1 h2 aj =>
  obtain ⟨eE, z, hu, e4, aP, gW, kg, nv, bI⟩ := p7 aB;obtain ⟨oI, nY, xd⟩ := aw.rows i r hi;obtain ⟨xs, iV, jV⟩ := oI.row bI;have hI : a.eval gP = r.v := (aw.rel.look aa).1;have zr : r.v.oneCell' = true := (aw.rel.look aa).2;have zu := aw.rel.look ai;rcases ue m with rfl | ve
  ·obtain ⟨⟨rk, uT, ex, yV, jS, F2⟩, MC⟩ := zu;have kj : news = [] := by simpa using jS
   subst kj;refine ⟨r.v, w, A, ?_, zr, ?_⟩
   ·rw [show (execOp a.eval o) = (do pure (.value (← Builtin.append_ #[tt, tt] o.type #[a.eval gP, a.eval hD])) : Sem Next) by
     simp only [execOp, az, resolve, invoke, builtin, List.map_toArray, j4, List.map_nil];rfl]
    simp only [Sem.run_bind];rw [hI, ex]
    obtain ⟨eZ, cap, hv, ep⟩ : ∃ eZ cap, r.v = .slice eZ r.n cap ∧ r.n ≤ cap := by
     rcases iV.2 with ⟨e, cX⟩ | ⟨g, cap, cur, hv, nh, pH, ep, _⟩
     ·exact ⟨none, 0, by rw [e, cX], by omega⟩
     ·exact ⟨_, cap, hv, ep⟩
    rw [hv];cases eZ with
    | none =>
     cases rk with
     | none => simp [Builtin.append_, run_underlying hu, sizeOf, typeInfo, e4, Builtin.lenOf, Builtin.firstCells, ep, storeCells]
     | some Bu => simp [Builtin.append_, run_underlying hu, sizeOf, typeInfo, e4, Builtin.lenOf, Builtin.firstCells, ep, storeCells, loadCells, loadCellsFrom]
    | some ahs =>
     cases rk with
     | none => simp [Builtin.append_, run_underlying hu, sizeOf, typeInfo, e4, Builtin.lenOf, Builtin.firstCells, ep, storeCells]
     | some Bu => simp [Builtin.append_, run_underlying hu, sizeOf, typeInfo, e4, Builtin.lenOf, Builtin.firstCells, ep, storeCells, loadCells, loadCellsFrom]
   ·have e : bK R i ⟨r.e, r.sz, r.v, r.n + 0, r.aS ++ []⟩ = R := by
     funext j
     by_cases e : j = i
     ·subst e; rw [cx, hi]; simp
     ·rw [cl _ _ e]
    show eA a8 bp (bK R i ⟨r.e, r.sz, r.v, r.n + 0, r.aS ++ []⟩) _ _ _ _ _;rw [e];exact aw.put (d := some d) (fun d' e => by cases e; exact hd) ⟨rfl, zr⟩
  ·obtain ⟨b, c, vs, lT, yV, jS, gD, pM⟩ := cc.Fm zu ve
   have kk : ∀ u ∈ vs, u.oneCell' = true := fun u eT => by
    obtain ⟨j, ae⟩ := j1 eT;have bg : j < news.length := by rw [pM.1]; exact (bM.1 ae).1
    exact (pM.2 j _ u (bN bg) ae).cell
   obtain ⟨v', w2, fS, pK, gi, kf, M5⟩ := IA (P := P) w 0 tt o.type r.e eE z r.sz bytes hu e4 aP gW kg nv bI r.v r.n xs iV b m c vs (by rw [← pM.1]; exact jS) gD kk h1 h2 (dC _) ve
   obtain ⟨dR, bZ⟩ := aw.grown (i := i) (r := ⟨r.e, r.sz, v', r.n + m, r.aS ++ news⟩) r.v.ownBlock (fun g aq => ⟨r, hi, .inl aq⟩) bI gi M5 pK kf (jV.append pM) (fun y ai => by
    rcases kr.1 ai with h | h
    ·exact nY y h
    ·exact aj y h) hd
   refine ⟨v', w2, dR, ?_, M5, bZ⟩;have YP : (Builtin.append_ #[tt, tt] o.type #[a.eval gP, a.eval hD]).run P w = .ok v' w2 := by rw [hI, lT]; exact fS
   simp only [execOp, az, resolve, invoke, builtin, Sem.run_bind, Sem.run_pure, Result.andThen_ok, List.map_toArray, j4, List.map_nil, YP]
 | new i t n e sz bytes parts vs zs r hi az aB dN aP ab h1 hs h2 an ap cZ =>
  obtain ⟨eE, z, hu, e4, hJ, gW, kg, nv, bI⟩ := p7 aB;unfold xP at dN;rw [hu] at dN;simp only at dN;unfold zeroOf at dN;rw [e4] at dN;simp only [ks] at dN;rw [hJ] at dN;cases dN;have hlen : z.cells.toList.length = sz := hs;have sb : (zeroValue e).run P w = .ok z w := by simp [zeroValue, typeInfo, program, Sem.run_bind, Sem.run, e4, Result.andThen, hJ]
  have jV : bL (s.free A ad) ad w (h5 n sz z.cells.toList) ((List.range (n * sz)).map fun j => z.cells[j % z.cells.size]!) := by
   refine ⟨by simp [h5], fun j x v aa hv => ?_⟩;have ae : j < n * sz := by have := (bM.1 hv).1; simpa using this
   simp only [h5, eg, List.getElem?_range ae, gL, h0] at aa hv;subst aa; subst hv;have bg : j % z.cells.size < z.cells.size := Nat.mod_lt _ (by omega);have aM : z.cells.toList.toArray[j % z.cells.toList.length]! = z.cells[j % z.cells.size]! := by simp
   refine ⟨aM.symm, ?_⟩;rw [aM, getElem!_pos z.cells _ bg];exact cB.1 h1 _ (by simp)
  obtain ⟨us, g1, g2⟩ := yG (U := s.free A ad) (ad := ad) (W := w) (ps := xB n sz) (place := fun i => some (i * sz, sz)) (fun i q al => by
    simp only [xB, eg] at al;cases ap : (List.range n)[i]? with
    | none => rw [ap] at al; cases al
    | some m =>
     rw [ap] at al;cases al;have := bM.1 ap;obtain ⟨an, aE⟩ := this;simp at aE;rw [aE]) (look := s.look) (env := a.eval) parts _ _ zs r jV aP (fun p hp av aJ => aw.rel.look aJ) ab
  have xf : us.length = n * sz := by rw [← g2.1]; exact ap
  have fS : (execOp a.eval o).run P w = .ok (.value (.slice (some ⟨w.heap.size, 0, none⟩) n n)) (w.alloc (.cells us.toArray e)) := by
   have tA : (parts.toArray.map fun (i, x) => (i, a.eval x)).toList = parts.map fun p => (p.1, a.eval p.2) := by simp
   have cg : (Array.range (n * sz)).map (fun j => z.cells[j % z.cells.size]!) = ((List.range (n * sz)).map fun j => z.cells[j % z.cells.size]!).toArray := by simp [← List.toArray_range]
   simp only [execOp, az, Instr.buildSlice, Sem.run_bind, run_underlying hu, Result.andThen_ok, hB e4, gW];rw [if_neg (by omega)]
   by_cases aD : n * sz = 0
   ·rw [if_pos aD];have dZ : (Array.range (n * sz)).map (fun j => (#[] : Array Value)[j % (#[] : Array Value).size]!) = ((List.range (n * sz)).map fun j => z.cells[j % z.cells.size]!).toArray := by rw [aD]; simp
    simp only [Sem.run_bind, Sem.run_pure, Result.andThen_ok, dZ, tA, g1, newRow, newObj, Sem.run];rfl
   ·rw [if_neg aD];simp only [Sem.run_bind, Sem.run_pure, sb, Result.andThen_ok, cg, tA, g1, newRow, newObj, Sem.run];rfl
  have GM : (w.alloc (.cells us.toArray e)).heap[w.heap.size]? = some (.cells us.toArray e (0, 0)) := by show (w.heap.push _)[w.heap.size]? = _; simp
  obtain ⟨dR, bZ⟩ := aw.grown (i := i) (r := ⟨e, sz, .slice (some ⟨w.heap.size, 0, none⟩) n n, n, r⟩) (xs := us) none (fun g aq => by cases aq) bI (World.grownBy_alloc w _ none) rfl ⟨xf, .inr ⟨w.heap.size, n, us.toArray, rfl, dC _, GM, dJ _, an, by simpa using xf, by simp [← xf]⟩⟩ (fun g aq => by simp [Value.ownBlock] at aq; exact .inr (by omega)) g2 cZ hd;exact ⟨_, _, dR, fS, rfl, bZ⟩
 | make i t l c e sz bytes x y oP lA vs hi az aB dN aa ai GB h1 hs h2 an =>
  obtain ⟨eE, z, hu, e4, hJ, gW, kg, nv, bI⟩ := p7 aB;unfold xP at dN;rw [hu] at dN;simp only at dN;unfold zeroOf at dN;rw [e4] at dN;simp only [ks] at dN;rw [hJ] at dN;cases dN;have hlen : z.cells.toList.length = sz := hs;have Yl : z.cells.size = sz := by simpa using hlen
  have CF : a.eval x = .int oP l := (aw.rel.look aa).1;have Y6 : a.eval y = .int lA c := (aw.rel.look ai).1;have W6 : (c : Int) ≤ 9223372036854775807 := by have h := an; simp only [maxLen] at h; omega
  have c4 : (eE.bytes : Int) * (c : Int) ≤ 281474976710656 := by
   have h : ((eE.bytes * c : Nat) : Int) ≤ 281474976710656 := by rw [kg]; omega
   rwa [Int.natCast_mul] at h
  have ap := run_make (P := P) w t e eE z hu e4 hJ oP lA l c (by omega) (by omega) c4 W6;simp only [kK, gW] at ap
  have fS : (execOp a.eval o).run P w = .ok (.value (.slice (some ⟨w.heap.size, 0, none⟩) l c)) (w.alloc (.cells (madeCells z.cells (c * sz)) e)) := by
   simp only [execOp, az, CF, Y6, Sem.run_bind, ap, Result.andThen_ok, Sem.run_pure]
  have GM : (w.alloc (.cells (madeCells z.cells (c * sz)) e)).heap[w.heap.size]? = some (.cells (madeCells z.cells (c * sz)) e (0, 0)) := by show (w.heap.push _)[w.heap.size]? = _; simp
  have hmul : l * sz ≤ c * sz := ju _ GB;have Nk : (madeCells z.cells (c * sz)).size = c * sz := size_madeCells _ _
  have vm : ((madeCells z.cells (c * sz)).toList.take (l * sz)).length = l * sz := by
   rw [dK, Array.length_toList, Nk]; exact o8 hmul
  have jV : bL (s.free A ad) ad w (h5 l sz z.cells.toList) ((madeCells z.cells (c * sz)).toList.take (l * sz)) := by
   refine ⟨by rw [vm]; simp [h5], fun j x v aa hv => ?_⟩;have ae : j < l * sz := by have := (bM.1 hv).1; rw [vm] at this; exact this
   rw [fE ae] at hv;simp only [h5, eg, List.getElem?_range ae, gL, h0] at aa;subst aa;have bg : j % z.cells.size < z.cells.size := Nat.mod_lt _ (by omega);have aM : z.cells.toList.toArray[j % z.cells.toList.length]! = z.cells[j % z.cells.size]! := by simp
   have lZ : v = z.cells[j % z.cells.size]! := by
    have : (madeCells z.cells (c * sz)).toList[j]? = some z.cells[j % z.cells.size]! := by
     simp only [madeCells, Array.toList_map, eg];rw [show (Array.range (c * sz)).toList[j]? = some j by rw [Array.toList_range, List.getElem?_range (pW ae hmul)]];rfl
    rw [this] at hv;exact (kJ hv).symm
   refine ⟨by rw [aM]; exact lZ, ?_⟩;rw [aM, getElem!_pos z.cells _ bg];exact cB.1 h1 _ (by simp)
  obtain ⟨dR, bZ⟩ := aw.grown (i := i) (r := ⟨e, sz, .slice (some ⟨w.heap.size, 0, none⟩) l c, l, h5 l sz z.cells.toList⟩) none (fun g aq => by cases aq) bI (World.grownBy_alloc w _ none) rfl ⟨vm, .inr ⟨w.heap.size, c, _, rfl, dC _, GM, GB, an, Nk, rfl⟩⟩ (fun g aq => by simp [Value.ownBlock] at aq; exact .inr (by omega)) jV (fun y ai => by simp only [h5, iv] at ai; obtain ⟨j, _, rfl⟩ := ai; rfl) hd;exact ⟨_, _, dR, fS, rfl, bZ⟩
 | copy i r tt t2 m lo hi x y news c8 bI az aB aa ai h1 h2 aj =>
  obtain ⟨el, eE, hu, e4, hs⟩ := mj aB;have xe : (P.info? el).map (·.size) = some r.sz := by rw [e4]; simp [hs]
  obtain ⟨oI, nY, xd⟩ := aw.rows i r c8;obtain ⟨xs, iV, jV⟩ := oI.row bI
  have hex : ∀ D S v2 w2, a.eval x = D → a.eval y = S → (Builtin.copy_ #[tt, t2] o.type #[D, S]).run P w = .ok v2 w2 → (execOp a.eval o).run P w = .ok (.value v2) w2 := fun D S v2 w2 aF aM cg => by
   subst aF aM;simp only [execOp, az, resolve, invoke, builtin, Sem.run_bind, Sem.run_pure, Result.andThen_ok, List.map_toArray, j4, List.map_nil, cg]
  obtain ⟨⟨rk, uT, ex⟩, MY, lX⟩ := ai.spec bI aw;have oN : r.aS.length = r.n * r.sz := by rw [jV.1]; exact iV.1
  rcases ue (Nat.min m (hi - lo)) with af | af
  ·obtain ⟨eZ, Fx, jj, eK, Cf⟩ : ∃ eZ Fx jj, a.eval x = .slice eZ Fx jj ∧ Fx = hi - lo := by
    obtain ⟨eZ, c, e, _, _⟩ := (aw.rows i r c8).Eb bI;rcases aa with ⟨aa, rfl, rfl⟩ | aa | ⟨u, aa, ⟨⟨Sc, VC, rQ⟩, _⟩⟩
    ·exact ⟨eZ, r.n, c, by rw [(aw.rel.look aa).1, e], by omega⟩
    ·have al : a.eval x = hc r.v r.sz lo hi := (aw.rel.look aa).1;rw [e] at al;unfold hc sliced at al;exact ⟨_, _, _, al, rfl⟩
    ·exact ⟨Sc, _, VC, by rw [(aw.rel.look aa).1, rQ], rfl⟩
   subst Cf;refine ⟨goInt 0, w, A, hex _ _ _ _ eK ex (afs w tt t2 o.type el _ _ _ _ _ _ r.sz hu xe af), by rw [af]; rfl, ?_⟩
   have e : bK R i ⟨r.e, r.sz, r.v, r.n, eD r.aS (lo * r.sz) (news.take (Nat.min m (hi - lo) * r.sz))⟩ = R := by
    rw [af];funext j
    by_cases e : j = i
    ·subst e; rw [cx, c8]; simp [eD]
    ·rw [cl _ _ e]
   rw [e];exact aw.put (d := some d) (fun d' e => by cases e; exact hd) ⟨rfl, rfl⟩
  ·have Cq : Nat.min m (hi - lo) ≤ m := Nat.min_le_left _ _;have aio : Nat.min m (hi - lo) ≤ hi - lo := Nat.min_le_right _ _;obtain ⟨b, c, vs, lT, gD, pM⟩ := lX (by omega)
   obtain ⟨g, cap, cur, hv, nh, pH, ep, iA, dT, lY⟩ : ∃ g cap cur, r.v = .slice (some ⟨g, 0, none⟩) r.n cap ∧ 0 ≤ g ∧ w.heap[g]? = some (.cells cur r.e (0, 0)) ∧ r.n ≤ cap ∧ cap ≤ maxLen ∧ cur.size = cap * r.sz ∧ cur.toList.take (r.n * r.sz) = xs := by
    rcases iV.2 with ⟨_, aD⟩ | h
    ·omega
    ·exact h
   obtain ⟨jj, eK⟩ : ∃ jj, a.eval x = .slice (some ⟨g, lo * r.sz, none⟩) (hi - lo) jj := by
    rcases aa with ⟨aa, rfl, rfl⟩ | aa | ⟨u, aa, ⟨_, hu⟩⟩
    ·exact ⟨cap, by rw [(aw.rel.look aa).1, hv]; simp⟩
    ·refine ⟨cap - lo, ?_⟩;rw [(aw.rel.look aa).1, hv, Q6 (by omega) (by omega)];have kC : (⟨g, 0, none⟩ : Addr).add (lo * r.sz) = ⟨g, lo * r.sz, none⟩ := by unfold Addr.add; split <;> simp_all
     rw [kC]
    ·obtain ⟨jk, n', c', aF, _, aM⟩ := hu (by omega);rw [hv] at aF;cases aF;exact ⟨_, by rw [(aw.rel.look aa).1, aM]⟩
   generalize oG : Nat.min m (hi - lo) = k at *;have aip : k * r.sz ≤ m * r.sz := ju _ Cq;have mF : (vs.take (k * r.sz)).length = k * r.sz := by rw [dK, ← pM.1, MY]; omega
   have gV : (news.take (k * r.sz)).length = k * r.sz := by rw [dK, MY]; omega
   have MQ : lo * r.sz + k * r.sz ≤ r.n * r.sz := by rw [← kq]; exact ju _ (by omega)
   have hmul : r.n * r.sz ≤ cap * r.sz := ju _ ep
   have M8 : bL (s.free A ad) ad w (news.take (k * r.sz)) (vs.take (k * r.sz)) := by
    have := pM.sub 0 (k * r.sz);simpa using this
   have kk : ∀ u ∈ vs.take (k * r.sz), u.oneCell' = true := fun u eT => by
    obtain ⟨j, ae⟩ := j1 eT;have bg : j < (news.take (k * r.sz)).length := by rw [gV, ← mF]; exact (bM.1 ae).1
    exact (M8.2 j _ u (bN bg) ae).cell
   have fS := aft (P := P) w tt t2 o.type el g (lo * r.sz) (hi - lo) jj r.sz b m c cur r.e (vs.take (k * r.sz)) hu xe pH (by rw [mF, oG]) (fun j v ae => gD j v (by
    have ak : j < k * r.sz := by rw [← mF]; exact (bM.1 ae).1
    rwa [fE ak] at ae)) (by rw [mF]; omega) kk
   rw [oG] at fS
   have vi : ∀ (u : Array Value), w.grownBy (w.setRow g u) (some g) := fun u => ⟨rfl, rfl, rfl, by simp [World.setRow], fun k _ af => by
    simp only [World.setRow, uc];rw [if_neg (fun e => af (by rw [e]))]⟩
   have np := setRow_heap w g cur (cur.toList.take (lo * r.sz) ++ vs.take (k * r.sz) ++ cur.toList.drop (lo * r.sz + (vs.take (k * r.sz)).length)).toArray r.e (0, 0) pH;have cZ : cur.toList.length = cap * r.sz := by rw [Array.length_toList]; exact dT
   have hlen : (cur.toList.take (lo * r.sz) ++ vs.take (k * r.sz) ++ cur.toList.drop (lo * r.sz + (vs.take (k * r.sz)).length)).length = cap * r.sz := by
    rw [cJ, cJ, mF, dK, h3, cZ]; omega
   have hq := agD (cur := cur.toList) (us := vs.take (k * r.sz)) (off := lo * r.sz) (N := r.n * r.sz) (by rw [mF]; exact MQ) (by rw [cZ]; exact hmul);rw [lY] at hq
   obtain ⟨dR, bZ⟩ := aw.FZ (i := i) (r := ⟨r.e, r.sz, r.v, r.n, eD r.aS (lo * r.sz) (news.take (k * r.sz))⟩) (w2 := w.setRow g (cur.toList.take (lo * r.sz) ++ vs.take (k * r.sz) ++ cur.toList.drop (lo * r.sz + (vs.take (k * r.sz)).length)).toArray) (xs := xs.take (lo * r.sz) ++ vs.take (k * r.sz) ++ xs.drop (lo * r.sz + (vs.take (k * r.sz)).length)) (some g) (fun jk eo => by cases eo; exact ⟨r, c8, .inl (by rw [hv]; rfl)⟩) bI (vi _)
    ⟨by rw [← hq, dK, hlen]; exact o8 hmul, .inr ⟨g, cap, _, hv, nh, np, ep, iA, by simpa using hlen, by simpa using hq⟩⟩ (fun jk eo => by rw [hv] at eo; simp [Value.ownBlock] at eo; exact .inl (by rw [eo])) (jV.eD M8 (lo * r.sz) (by rw [gV, oN]; exact MQ)) (fun q al => by
     unfold eD at al;simp only [kr] at al;rcases al with (h1 | h1) | h1
     ·exact nY q (nB h1)
     ·exact aj q (nB h1)
     ·exact nY q (mO h1))
   exact ⟨goInt (k : Int), _, dR, hex _ _ _ _ eK lT fS, rfl, bZ.put (d := some d) (fun d' e => by cases e; exact hd) ⟨rfl, rfl⟩⟩
inductive sR (P : Program) (R : aI) (look : Operand → Option ah) (o : Oper) : aI → Prop
 | store (i : Nat) (r : bG) (off ty : Nat) (x y : Operand) (z : bz) (eE : TypeInfo) (hi : R i = some r) (ax : 0 < r.n) (az : o.op = .store ty x y) (aa : look x = some (aR (jy r.v off))) (ai : look y = some (.w z)) (aB : P.info? ty = some eE) (hs : eE.size = z.cells.length) (ab : off + z.cells.length ≤ r.aS.length) (aj : ∀ q ∈ z.cells, q.aZ = true) : sR P R look o (bK R i ⟨r.e, r.sz, r.v, r.n, eD r.aS off z.cells⟩)
theorem sR.sound {ay : aI} (h : sR P R s.look o ay) (aw : eA a8 bp R s a w A ad) : ∃ w2 dR, (execOp a.eval o).run P w = .ok .skip w2 ∧ eA a8 bp ay s a w2 dR ad := by
 cases h with
 | store i r off ty x y z eE hi ax az aa ai aB hs ab aj =>
  obtain ⟨oI, nY, xd⟩ := aw.rows i r hi;have bI := oI.pos ax;obtain ⟨xs, iV, jV⟩ := oI.row bI
  obtain ⟨g, cap, cur, hv, nh, pH, ep, iA, dT, lY⟩ : ∃ g cap cur, r.v = .slice (some ⟨g, 0, none⟩) r.n cap ∧ 0 ≤ g ∧ w.heap[g]? = some (.cells cur r.e (0, 0)) ∧ r.n ≤ cap ∧ cap ≤ maxLen ∧ cur.size = cap * r.sz ∧ cur.toList.take (r.n * r.sz) = xs := by
   rcases iV.2 with ⟨_, aD⟩ | h
   ·omega
   ·exact h
  have hp : a.eval x = .pointer (some ⟨g, off, none⟩) := by
   have := (aw.rel.look aa).1;rw [hv] at this;have kC : (⟨g, 0, none⟩ : Addr).add off = ⟨g, off, none⟩ := by unfold Addr.add; split <;> simp_all
   rw [this]; simp only [jy, kC]
  have aP : fX (s.free A ad) ad w z (a.eval y) := aw.rel.look ai;have oO := aP.cells;have vo : (a.eval y).cells.size = z.cells.length := by have := oO.1; simp at this; exact this.symm
  have oN : r.aS.length = r.n * r.sz := by rw [jV.1]; exact iV.1
  have hmul : r.n * r.sz ≤ cap * r.sz := ju _ ep
  have iW : (storeVar ty ⟨g, off, none⟩ (a.eval y)).run P w = .ok () (w.setRow g (cur.toList.take off ++ (a.eval y).cells.toList ++ cur.toList.drop (off + (a.eval y).cells.toList.length)).toArray) := by
   unfold storeVar;have bU : ¬ ((a.eval y).cells.size ≠ eE.size) := by rw [vo, hs]; simp
   simp only [Sem.run_bind, hB aB, Result.andThen_ok, if_neg bU]
   have dF : ∀ v ∈ (a.eval y).cells.toList, v.oneCell' = true := fun v bR => by
    obtain ⟨j, ae⟩ := j1 bR;have bg : j < z.cells.length := by rw [oO.1]; exact (bM.1 ae).1
    exact (oO.2 j _ v (bN bg) ae).cell
   have := run_storeCells_at (P := P) g off r.e (a.eval y).cells.toList 0 cur w pH (by simp; omega) dF;simpa using this
  have vi : ∀ (u : Array Value), w.grownBy (w.setRow g u) (some g) := fun u => ⟨rfl, rfl, rfl, by simp [World.setRow], fun k _ af => by
   simp only [World.setRow, uc];rw [if_neg (fun e => af (by rw [e]))]⟩
  have np := setRow_heap w g cur (cur.toList.take off ++ (a.eval y).cells.toList ++ cur.toList.drop (off + (a.eval y).cells.toList.length)).toArray r.e (0, 0) pH
  have hlen : (cur.toList.take off ++ (a.eval y).cells.toList ++ cur.toList.drop (off + (a.eval y).cells.toList.length)).length = cap * r.sz := by
   simp [vo]; omega
  have hq : (cur.toList.take off ++ (a.eval y).cells.toList ++ cur.toList.drop (off + (a.eval y).cells.toList.length)).take (r.n * r.sz) = xs.take off ++ (a.eval y).cells.toList ++ xs.drop (off + (a.eval y).cells.toList.length) := by
   have Nt : (a.eval y).cells.toList.length = z.cells.length := by simpa using vo
   rw [← lY];apply List.ext_getElem?;intro j
   by_cases ae : j < r.n * r.sz
   ·rw [fE ae]
    by_cases qN : j < off
    ·rw [iu, gd (by simp; omega), fE qN, iu, gd (by simp; omega), fE qN, fE ae]
    ·have t1 : (cur.toList.take off).length = off := by simp; omega
     have t2 : ((cur.toList.take (r.n * r.sz)).take off).length = off := by simp; omega
     by_cases CQ : j < off + z.cells.length
     ·rw [iu, gz (by omega), gd (by omega), iu, gz (by omega), gd (by omega), t1, t2]
     ·rw [gz (by simp only [cJ, t1]; omega), gz (by simp only [cJ, t2]; omega), fV, fV];simp only [cJ, t1, t2, Nt];rw [fE (by omega)]
   ·rw [k7 (by simp; omega), k7];simp only [cJ, dK, h3, Nt];have : cur.toList.length = cap * r.sz := by simpa using dT
    omega
  obtain ⟨dR, bZ⟩ := aw.FZ (i := i) (r := ⟨r.e, r.sz, r.v, r.n, eD r.aS off z.cells⟩) (w2 := w.setRow g (cur.toList.take off ++ (a.eval y).cells.toList ++ cur.toList.drop (off + (a.eval y).cells.toList.length)).toArray) (xs := xs.take off ++ (a.eval y).cells.toList ++ xs.drop (off + (a.eval y).cells.toList.length)) (some g) (fun jk eo => by cases eo; exact ⟨r, hi, .inl (by rw [hv]; rfl)⟩) bI (vi _)
   ⟨by simp [vo]; have := iV.1; omega, .inr ⟨g, cap, _, hv, nh, np, ep, iA, by simpa using hlen, by simpa using hq⟩⟩ (fun jk eo => by rw [hv] at eo; simp [Value.ownBlock] at eo; exact .inl (by rw [eo])) (jV.eD oO off ab) (fun q al => by
    unfold eD at al;simp only [kr] at al;rcases al with (h1 | h1) | h1
    ·exact nY q (nB h1)
    ·exact aj q h1
    ·exact nY q (mO h1))
  refine ⟨_, dR, ?_, bZ⟩;simp only [execOp, az, Instr.storeAt, hp, Instr.sureAddr, Sem.run_bind, Sem.run_pure, Result.andThen_ok, iW]
end
abbrev Mem := Nat → Option (List AC)
def ca : Mem := fun _ => none
def en (ad : Nat → Nat) (m : Mem) (R : aI) (b : Nat) : Prop := (∃ k cs, m k = some cs ∧ ad k = b) ∨ ∃ i r, R i = some r ∧ r.own b
structure e3 (U : Nat → Prop) (ad : Nat → Nat) (W : World) (m : Mem) (R : aI) : Prop where
  dn : ∀ k cs, m k = some cs → ∃ (vs : List Value) (ty : TypeId), W.heap[ad k]? = some (.cells vs.toArray ty (0, 0)) ∧ bL U ad W cs vs ∧ ¬ U (ad k)
  fJ : ∀ k cs x j, m k = some cs → x ∈ cs → x.owns j → ∃ au, m j = some au
  inj : ∀ k k' cs au, m k = some cs → m k' = some au → ad k = ad k' → k = k'
  rows : ∀ i r, R i = some r → r.ok U ad W ∧ (∀ y ∈ r.aS, y.aZ = true) ∧ ∀ g, r.own g → ¬ U g ∧ ∀ k cs, m k = some cs → ad k ≠ g
  apart : ∀ i j r q, R i = some r → R j = some q → i ≠ j → ∀ g, r.own g → ¬ q.own g
def GP (ad : Nat → Nat) (W : World) (m : Mem) (R : aI) : eH := ⟨W, fun b => b < W.heap.size ∧ ¬ en ad m R b, fun _ h => h.1, fun _ => none, []⟩
def bV {α : Type} (f g : Nat → Option α) : Nat → Option α := fun j => match f j with
  | some x => some x
  | none => g j
theorem jZ {α : Type} {f g : Nat → Option α} {j : Nat} {x : α} (h : bV f g j = some x) : f j = some x ∨ (f j = none ∧ g j = some x) := by
  unfold bV at h;cases ar : f j with
  | some y => rw [ar] at h; exact .inl h
  | none => rw [ar] at h; exact .inr ⟨rfl, h⟩
theorem hL {α : Type} {f g : Nat → Option α} {j : Nat} {x : α} (h : f j = some x) : bV f g j = some x := by unfold bV; rw [h]
theorem hM {α : Type} {f g : Nat → Option α} {j : Nat} (h : f j = none) : bV f g j = g j := by unfold bV; rw [h]
structure dk (P : Program) (f : FuncId) (args : List ah) (m0 : Mem) (R0 : aI) (Post : ah → Mem → aI → Prop) : Prop where
  call : ∀ (U : Nat → Prop) (ad : Nat → Nat) (W : World) (vs : List Value), e3 U ad W m0 R0 → (∀ x ∈ args, ∀ j, x.owns j → ∃ cs, m0 j = some cs) → kb U ad W args vs →
    Calls P f vs.toArray W fun e bh => ∃ v r aG ay aY cF, e = .returned v ∧ Post r aG ay ∧ e3 cF aY bh aG ay ∧ da cF aY bh r v ∧ (∀ j, r.owns j → ∃ cs, aG j = some cs) ∧
      (∀ k cs, m0 k = some cs → aY k = ad k ∧ ∃ au, aG k = some au) ∧ (∀ i r, R0 i = some r → ∃ aX, ay i = some aX) ∧
      (∀ b, cF b → U b ∨ W.heap.size ≤ b ∨ en ad m0 R0 b) ∧ (∀ b, en aY aG ay b → en ad m0 R0 b ∨ W.heap.size ≤ b) ∧ iN (GP ad W m0 R0) bh
section
variable {P : Program} {B a8 : eH} {A bp : Nat → Prop} {s : aA} {ad : Nat → Nat} {a : Act} {w : World} {o : Oper} {R : aI} {Q : Exit → Act → World → Prop}
theorem pf.Vi {U : Nat → Prop} {v : Value} {fn : Fn} {cs : List AC} (h : gh U ad w (.p (pf fn cs)) v) : ∃ vs : List Value, v = .func fn #[] vs.toArray ∧ ∀ aY, bL U aY w cs vs := by
  obtain ⟨⟨vs, rfl, ak, aj⟩, ar⟩ := h;refine ⟨vs, rfl, fun aY => ⟨ak.1, fun i x u aa hu => ?_⟩⟩;have h := ak.2 i x u aa hu;cases x with
  | c y => exact h
  | own k o => exact absurd rfl (aj _ (c7 aa) k)
  | p R => exact ⟨h.1, fun b ab => ar b ⟨vs, rfl, i, _, u, aa, hu, ab⟩⟩
theorem sQ.run {f : FuncId} {args : List ah} (aj : sQ P s.look o f args) (aw : Rel B A s ad a w) : ∃ us : List Value, kb (s.free A ad) ad w args us ∧ (execOp a.eval o).run P w = .ok (.enter f us.toArray) w := by
  obtain ⟨⟨c, g, az, yT, aU⟩, yZ⟩ := aj;rcases aU with ⟨bs, aq, oD, w4⟩ | ⟨cs, aq, oD⟩
  · have iC : a.eval g = .func (.func f) bs.toArray #[] := (aw.look aq).1
    refine ⟨bs ++ c.args.toList.map a.eval, ?_, ?_⟩
    · refine ⟨by have := congrArg List.length oD; simpa using this.symm, fun i x v aa hv => ?_⟩
      have h1 : (bs.map (fun b => some (xw b)) ++ c.args.toList.map s.look)[i]? = some (some x) := by rw [oD, eg, aa]; rfl
      rcases hz i bs.length with bg | kE
      · rw [gd (by simpa using bg), eg] at h1
        rw [gd bg] at hv;rw [hv] at h1;simp only [gL, h0] at h1;subst h1;exact Rb (cB.1 w4 v (c7 hv))
      · rw [gz (by simpa using kE), eg] at h1
        rw [gz kE, eg] at hv;simp only [mP] at h1;cases ai : c.args.toList[i - bs.length]? with
        | none => rw [ai] at hv; cases hv
        | some y =>
          rw [ai] at h1 hv;simp only [gL, h0] at h1 hv;subst hv;exact aw.look h1
    · have e : bs.toArray ++ c.args.map a.eval ++ #[] = (bs ++ c.args.toList.map a.eval).toArray := by
        rw [Array.append_empty];apply Array.ext';simp
      simp only [execOp, az, resolve, yT, Deferred.ofValue, iC];simp only [Sem.run_bind, Sem.run_pure, Result.andThen_ok, invoke];rw [e];exact BS yZ
  · obtain ⟨vs, iC, cZ⟩ := pf.Vi (ad := ad) (aw.look aq)
    refine ⟨c.args.toList.map a.eval ++ vs, ?_, ?_⟩
    · refine ⟨by have := congrArg List.length oD; have h2 := (cZ ad).1; simp at this ⊢; omega, fun i x v aa hv => ?_⟩
      have h1 : (c.args.toList.map s.look ++ cs.map (fun x => some (.w (.one x))))[i]? = some (some x) := by rw [oD, eg, aa]; rfl
      rcases hz i c.args.toList.length with bg | kE
      · rw [gd (by simpa using bg), eg] at h1
        rw [gd (by simpa using bg), eg] at hv;cases ai : c.args.toList[i]? with
        | none => rw [ai] at hv; cases hv
        | some y =>
          rw [ai] at h1 hv;simp only [gL, h0] at h1 hv;subst hv;exact aw.look h1
      · rw [gz (by simpa using kE), eg] at h1
        rw [gz (by simpa using kE)] at hv;simp only [mP] at h1 hv;cases ai : cs[i - c.args.toList.length]? with
        | none => rw [ai] at h1; cases h1
        | some y =>
          rw [ai] at h1;simp only [gL, h0] at h1;subst h1;exact (cZ ad).2 _ y v ai hv
    · have e : (#[] : Array Value) ++ c.args.map a.eval ++ vs.toArray = (c.args.toList.map a.eval ++ vs).toArray := by
        apply Array.ext';simp
      simp only [execOp, az, resolve, yT, Deferred.ofValue, iC];simp only [Sem.run_bind, Sem.run_pure, Result.andThen_ok, invoke];rw [e];exact BS yZ
theorem eA.part (aw : eA a8 bp R s a w A ad) {m0 : Mem} {R0 : aI} (hm : ∀ k cs, m0 k = some cs → s.mem k = some cs) (ap : bB R0 R) (fJ : ∀ k cs x j, m0 k = some cs → x ∈ cs → x.owns j → ∃ au, m0 j = some au) : e3 (s.free A ad) ad w m0 R0 := by
  refine ⟨fun k cs af => ?_, fJ, fun k k' cs au af eL e => aw.rel.inj k k' cs au (hm k cs af) (hm k' au eL) e, fun i r hi => ?_, fun i j r q hi ae => aw.apart i j r q (ap i r hi) (ap j q ae)⟩
  · obtain ⟨vs, ty, h1, h2, _⟩ := aw.rel.dn k cs (hm k cs af)
    exact ⟨vs, ty, h1, h2, fun h => h.2 k cs (hm k cs af) rfl⟩
  · obtain ⟨h1, h2, an⟩ := aw.rows i r (ap i r hi)
    exact ⟨h1, h2, fun g aq => ⟨fun h => (an g aq).1 h.1, fun k cs af => (an g aq).2 k cs (hm k cs af)⟩⟩
theorem eA.YB (aw : eA a8 bp R s a w A ad) {m0 : Mem} {R0 : aI} (hm : ∀ k cs, m0 k = some cs → s.mem k = some cs) (ap : bB R0 R) {b : Nat} (h : en ad m0 R0 b) : b < w.heap.size := by
  rcases h with ⟨k, cs, af, rfl⟩ | ⟨i, r, hi, aq⟩
  · exact aw.rel.lt (hm k cs af)
  · exact (aw.rows i r (ap i r hi)).ok.lt aq
def aA.over (s : aA) (aG : Mem) : aA := { s with mem := bV aG s.mem }
theorem eA.called (aw : eA a8 bp R s a w A ad) (ok : s.cE) {m0 aG : Mem} {R0 ay : aI} {aY : Nat → Nat} {cF : Nat → Prop} {w' : World} (hm : ∀ k cs, m0 k = some cs → s.mem k = some cs) (ap : bB R0 R)
    (cj : e3 cF aY w' aG ay) (bl : ∀ k cs, m0 k = some cs → aY k = ad k ∧ ∃ au, aG k = some au) (bJ : ∀ i r, R0 i = some r → ∃ aX, ay i = some aX) (f1 : ∀ k au, aG k = some au → (∃ cs, m0 k = some cs) ∨ s.mem k = none) (fn : ∀ k au, aG k = some au → s.mem k = none → k < s.n)
    (b3 : ∀ b, cF b → s.free A ad b ∨ w.heap.size ≤ b ∨ en ad m0 R0 b) (b7 : ∀ b, en aY aG ay b → en ad m0 R0 b ∨ w.heap.size ≤ b) (ab : iN (GP ad w m0 R0) w') :
    eA a8 bp (bV ay R) (s.over aG) a w' (fun b => (s.free A ad b ∧ b < w.heap.size) ∨ cF b ∨ w'.heap.size ≤ b) (fun k => match aG k with | some _ => aY k | none => ad k) ∧
      (∀ b, cF b → (s.over aG).free (fun b => (s.free A ad b ∧ b < w.heap.size) ∨ cF b ∨ w'.heap.size ≤ b) (fun k => match aG k with | some _ => aY k | none => ad k) b) ∧ (s.over aG).cE := by
  have bg : ∀ b, en ad m0 R0 b → b < w.heap.size := fun b h => aw.YB hm ap h
  have jq : ∀ k, (∃ cs, s.mem k = some cs) → (match aG k with | some _ => aY k | none => ad k) = ad k := by
    rintro k ⟨cs, af⟩;cases fR : aG k with
    | none => rfl
    | some au =>
      rcases f1 k au fR with ⟨uS, aD⟩ | aD
      · exact (bl k uS aD).1
      · rw [aD] at af; cases af
  have Zj : ∀ k au, aG k = some au → (match aG k with | some _ => aY k | none => ad k) = aY k := fun k au h => by rw [h]
  have r3 : ∀ b, s.free A ad b → ¬ en ad m0 R0 b := by
    rintro b ar (⟨k, cs, af, rfl⟩ | ⟨i, r, hi, aq⟩)
    · exact ar.2 k cs (hm k cs af) rfl
    · exact ((aw.rows i r (ap i r hi)).own b aq).1 ar.1
  have vb : ∀ b, b < w.heap.size → ¬ en ad m0 R0 b → w'.heap[b]? = w.heap[b]? := fun b h1 h2 => ab.block b ⟨h1, h2⟩;have bI : w.heap.size ≤ w'.heap.size := ab.size
  have Ct : ∀ b, en aY aG ay b → b < w'.heap.size := by
    rintro b (⟨k, cs, af, rfl⟩ | ⟨i, r, hi, aq⟩)
    · obtain ⟨vs, ty, h1, _⟩ := cj.dn k cs af
      exact (jv.1 h1).1
    · exact (cj.rows i r hi).1.lt aq
 
  have zQ : ∀ k cs, aG k = none → s.mem k = some cs → ¬ en ad m0 R0 (ad k) := by
    rintro k cs ax af (⟨j, uS, ae, e⟩ | ⟨i, r, hi, aq⟩)
    · have bq : j = k := aw.rel.inj j k _ _ (hm j uS ae) af e
      subst bq;obtain ⟨_, au, h⟩ := bl j uS ae;rw [ax] at h; cases h
    · exact ((aw.rows i r (ap i r hi)).own _ aq).2 k cs af rfl
  have Aj : ∀ i r, ay i = none → R i = some r → ∀ g, r.own g → ¬ en ad m0 R0 g := by
    rintro i r ax hi g aq (⟨j, uS, ae, e⟩ | ⟨fl, aX, c8, eo⟩)
    · exact ((aw.rows i r hi).own _ aq).2 j uS (hm j uS ae) e
    · by_cases e : i = fl
      · subst e
        obtain ⟨q, h⟩ := bJ i aX c8;rw [ax] at h; cases h
      · exact aw.apart i fl r aX hi (ap fl aX c8) e g aq eo
  have xK : ∀ i r, R i = some r → ∀ g, r.own g → g < w.heap.size := fun i r hi g aq => (aw.rows i r hi).ok.lt aq
  have Gc : ∀ b, cF b → ¬ en aY aG ay b := by
    rintro b hu (⟨k, cs, af, rfl⟩ | ⟨i, r, hi, aq⟩)
    · obtain ⟨_, _, _, _, h⟩ := cj.dn k cs af; exact h hu
    · exact ((cj.rows i r hi).2.2 b aq).1 hu
  have FP : ∀ b, s.free A ad b → b < w.heap.size → (s.over aG).free (fun b => (s.free A ad b ∧ b < w.heap.size) ∨ cF b ∨ w'.heap.size ≤ b) (fun k => match aG k with | some _ => aY k | none => ad k) b := by
    intro b ar ak;refine ⟨.inl ⟨ar, ak⟩, fun k cs af => ?_⟩;rcases jZ (show bV aG s.mem k = some cs from af) with h | ⟨h, aO⟩
    · simp only [h]
      intro e;rcases b7 b (.inl ⟨k, cs, h, e⟩) with q | q
      · exact r3 b ar q
      · omega
    · simp only [h]; exact ar.2 k cs aO
  have FQ : ∀ b, cF b → (s.over aG).free (fun b => (s.free A ad b ∧ b < w.heap.size) ∨ cF b ∨ w'.heap.size ≤ b) (fun k => match aG k with | some _ => aY k | none => ad k) b := by
    intro b hu;refine ⟨.inr (.inl hu), fun k cs af => ?_⟩;rcases jZ (show bV aG s.mem k = some cs from af) with h | ⟨h, aO⟩
    · simp only [h]
      intro e;exact Gc b hu (.inl ⟨k, cs, h, e⟩)
    · simp only [h]
      intro e;subst e;rcases b3 _ hu with q | q | q
      · exact q.2 k cs aO rfl
      · have := aw.rel.lt aO; omega
      · exact zQ k cs h aO q
  have c0 : (s.over aG).cE := by
    have zH : ∀ j, (∃ cs, s.mem j = some cs) → ∃ cs, (s.over aG).mem j = some cs := by
      rintro j ⟨cs, h⟩;show ∃ cs, bV aG s.mem j = some cs;cases fR : aG j with
      | some c => exact ⟨c, hL fR⟩
      | none => exact ⟨cs, by rw [hM fR]; exact h⟩
    refine ⟨fun t av j aB ae => zH j (ok.hf t av j aB ae), fun k cs x j af aa ae => ?_⟩;rcases jZ (show bV aG s.mem k = some cs from af) with h | ⟨h, aO⟩
    · obtain ⟨c, aj⟩ := cj.fJ k cs x j h aa ae
      exact ⟨c, hL aj⟩
    · exact zH j (ok.dn k cs x j aO aa ae)
  have aa2 : ∀ k cs, m0 k = some cs → en aY aG ay (ad k) := fun k cs af => by
    obtain ⟨e, au, h⟩ := bl k cs af;exact .inl ⟨k, au, h, e⟩
  have M6 : ∀ b, en ad m0 R0 b → ¬ a8.F b := by
    rintro b (⟨k, cs, af, rfl⟩ | ⟨i, r, hi, aq⟩)
    · exact aw.oS k cs (hm k cs af)
    · exact (aw.hot i r b (ap i r hi) aq).1
  have OZ : ∀ b, w.heap.size ≤ b → ¬ a8.F b := fun b h ar => by have := a8.lt b ar; have := aw.below.size; omega
  refine ⟨⟨aw.up, ?_, ?_, fun k cs af ar => ?_, ⟨ab.os.trans aw.below.os, ab.tape.trans aw.below.tape, ab.output.trans aw.below.output, ha aw.below.size ab.size, fun b ar => ?_⟩, fun i r hi => ?_, fun i j r q hi ae gG g aq => ?_, fun i r g hi aq => ?_, fun k b af => ?_⟩, FQ, c0⟩
  · rintro b (h | h | h)
    · exact aw.sub b h.1.1
    · rcases b3 b h with q | q | ⟨k, cs, af, rfl⟩ | ⟨i, r, hi, aq⟩
      · exact aw.sub b q.1
      · exact aw.up b (ha aw.below.size q)
      · exact absurd (aa2 k cs af) (Gc _ h)
      · exact (aw.hot i r b (ap i r hi) aq).2
    · exact aw.up b (by have := aw.below.size; omega)
  · refine ⟨aw.rel.pT, aw.rel.size, fun t av aB => ?_, fun k cs af => ?_, fun k k' cs au af eL e => ?_, iN.refl _, fun b h => .inr (.inr h), u5 _ _ _⟩
    · obtain ⟨v, h1, h2⟩ := aw.rel.hf t av aB
      exact ⟨v, h1, h2.map (fun b ar ak => ⟨FP b ar ak, vb b ak (r3 b ar)⟩) fun j ae => jq j (ok.hf t av j aB ae)⟩
    · rcases jZ (show bV aG s.mem k = some cs from af) with h | ⟨h, aO⟩
      · obtain ⟨vs, ty, h1, h2, _⟩ := cj.dn k cs h
        refine ⟨vs, ty, by simp only [h]; exact h1, h2.map (fun b hu _ => ⟨FQ b hu, rfl⟩) fun j x aa ae => ?_, fun ar => ar.2 k cs af rfl⟩;obtain ⟨c, aj⟩ := cj.fJ k cs x j h aa ae;exact Zj j c aj
      · obtain ⟨vs, ty, h1, h2, _⟩ := aw.rel.dn k cs aO
        refine ⟨vs, ty, by simp only [h]; rw [vb _ (aw.rel.lt aO) (zQ k cs h aO)]; exact h1, h2.map (fun b ar ak => ⟨FP b ar ak, vb b ak (r3 b ar)⟩) fun j x aa ae => jq j (ok.dn k cs x j aO aa ae), fun ar => ar.2 k cs af rfl⟩
    · rcases jZ (show bV aG s.mem k = some cs from af) with h | ⟨h, aO⟩
      · rcases jZ (show bV aG s.mem k' = some au from eL) with g | ⟨g, jk⟩
        · simp only [h, g] at e
          exact cj.inj k k' cs au h g e
        · simp only [h, g] at e
          rcases b7 _ (.inl ⟨k, cs, h, e⟩) with q | q
          · exact absurd q (zQ k' au g jk)
          · have := aw.rel.lt jk; omega
      · rcases jZ (show bV aG s.mem k' = some au from eL) with g | ⟨g, jk⟩
        · simp only [h, g] at e
          rcases b7 _ (.inl ⟨k', au, g, e.symm⟩) with q | q
          · exact absurd q (zQ k cs h aO)
          · have := aw.rel.lt aO; omega
        · simp only [h, g] at e
          exact aw.rel.inj k k' cs au aO jk e
  · rcases jZ (show bV aG s.mem k = some cs from af) with h | ⟨h, aO⟩
    · simp only [h] at ar
      rcases b7 _ (.inl ⟨k, cs, h, rfl⟩) with q | q
      · exact M6 _ q ar
      · exact OZ _ q ar
    · simp only [h] at ar
      exact aw.oS k cs aO ar
  · exact (vb b (pW (a8.lt b ar) aw.below.size) fun h => M6 b h ar).trans (aw.below.block b ar)
  · rcases jZ hi with h | ⟨h, aO⟩
    · obtain ⟨lu, aj, aq⟩ := cj.rows i r h
      refine ⟨lu.kept aj (fun _ _ => rfl) (dJ _) (fun b hu _ => ⟨FQ b hu, rfl⟩), aj, fun g q => ?_⟩;have aU : en aY aG ay g := .inr ⟨i, r, h, q⟩;refine ⟨?_, fun k cs af => ?_⟩
      · rintro (z | z | z)
        · rcases b7 g aU with y | y
          · exact r3 g z.1 y
          · omega
        · exact Gc g z aU
        · have := Ct g aU; omega
      · rcases jZ (show bV aG s.mem k = some cs from af) with y | ⟨y, y'⟩
        · simp only [y]; exact (aq g q).2 k cs y
        · simp only [y]
          intro e;subst e;rcases b7 _ aU with z | z
          · exact zQ k cs y y' z
          · have := aw.rel.lt y'; omega
    · obtain ⟨lu, aj, aq⟩ := aw.rows i r aO
      refine ⟨lu.kept aj (fun g q => vb g (xK i r aO g q) (Aj i r h aO g q)) bI (fun b ar c4 => ⟨FP b ar c4, vb b c4 (r3 b ar)⟩), aj, fun g q => ⟨?_, fun k cs af => ?_⟩⟩
      · rintro (z | z | z)
        · exact (aq g q).1 z.1.1
        · rcases b3 g z with y | y | y
          · exact (aq g q).1 y.1
          · have := xK i r aO g q; omega
          · exact Aj i r h aO g q y
        · have := xK i r aO g q; omega
      · rcases jZ (show bV aG s.mem k = some cs from af) with y | ⟨y, y'⟩
        · simp only [y]
          intro e;rcases b7 g (.inl ⟨k, cs, y, e⟩) with z | z
          · exact Aj i r h aO g q z
          · have := xK i r aO g q; omega
        · simp only [y]; exact (aq g q).2 k cs y'
  · rcases jZ hi with h | ⟨h, aO⟩
    · rcases jZ ae with y | ⟨y, y'⟩
      · exact cj.apart i j r q h y gG g aq
      · intro al
        rcases b7 g (.inr ⟨i, r, h, aq⟩) with z | z
        · exact Aj j q y y' g al z
        · have := xK j q y' g al; omega
    · rcases jZ ae with y | ⟨y, y'⟩
      · intro al
        rcases b7 g (.inr ⟨j, q, y, al⟩) with z | z
        · exact Aj i r h aO g aq z
        · have := xK i r aO g aq; omega
      · exact aw.apart i j r q aO y' gG g aq
  · rcases jZ hi with h | ⟨h, aO⟩
    · rcases b7 g (.inr ⟨i, r, h, aq⟩) with (⟨k, cs, af, e⟩ | ⟨j, q, ae, al⟩) | z
      · obtain ⟨bq, au, aD⟩ := bl k cs af
        exact absurd (bq.trans e) (((cj.rows i r h).2.2 g aq).2 k au aD)
      · exact aw.hot j q g (ap j q ae) al
      · exact ⟨OZ g z, aw.up g (by have := aw.below.size; omega)⟩
    · exact aw.hot i r g aO aq
  · obtain ⟨h1, h2⟩ := aw.jH k b af
    refine ⟨h1, ?_⟩;cases fR : aG k with
    | none => exact h2
    | some c =>
      rcases f1 k c fR with ⟨cs, aD⟩ | aD
      · exact (bl k cs aD).1.trans h2
      · exact absurd (fn k c fR aD) (Nat.not_lt.2 h1)
structure uz (P : Program) (T : Nat → Bool) (R : aI) (s : aA) (o : Oper) (K : aI → aA → Prop) : Prop where
  ex : ∃ f args m0 R0 Post, sQ P s.look o f args ∧ dk P f args m0 R0 Post ∧ (∀ x ∈ args, ∀ j, x.owns j → ∃ cs, m0 j = some cs) ∧ (∀ k cs, m0 k = some cs → s.mem k = some cs ∧ (T k = true ∨ ∀ r aG ay, Post r aG ay → aG k = some cs)) ∧ bB R0 R ∧ (∀ k cs x j, m0 k = some cs → x ∈ cs → x.owns j → ∃ au, m0 j = some au) ∧
    ∀ r aG ay, Post r aG ay → (∀ j, r.owns j → ∃ cs, aG j = some cs) → (∀ k cs x j, aG k = some cs → x ∈ cs → x.owns j → ∃ au, aG j = some au) → (∀ k cs, m0 k = some cs → ∃ au, aG k = some au) →
      (∀ k au, aG k = some au → (∃ cs, m0 k = some cs) ∨ (s.mem k = none ∧ k < s.n)) ∧ K (bV ay R) ((s.over aG).put o.dst r)
theorem aA.cE.ack {aG : Mem} (ok : s.cE) (fJ : ∀ k cs x j, aG k = some cs → x ∈ cs → x.owns j → ∃ au, aG j = some au) : (s.over aG).cE := by
  have zH : ∀ j, (∃ cs, s.mem j = some cs) → ∃ cs, (s.over aG).mem j = some cs := by
    rintro j ⟨cs, h⟩;show ∃ cs, bV aG s.mem j = some cs;cases fR : aG j with
    | some c => exact ⟨c, hL fR⟩
    | none => exact ⟨cs, by rw [hM fR]; exact h⟩
  refine ⟨fun t av j aB ae => zH j (ok.hf t av j aB ae), fun k cs x j af aa ae => ?_⟩;rcases jZ (show bV aG s.mem k = some cs from af) with h | ⟨h, aO⟩
  · obtain ⟨c, aj⟩ := fJ k cs x j h aa ae
    exact ⟨c, hL aj⟩
  · exact zH j (ok.dn k cs x j aO aa ae)
theorem aA.cE.H2 {aG : Mem} {r : ah} (ok : s.cE) (fJ : ∀ k cs x j, aG k = some cs → x ∈ cs → x.owns j → ∃ au, aG j = some au) (iV : ∀ j, r.owns j → ∃ cs, aG j = some cs) (dst : Option Nat) : ((s.over aG).put dst r).cE :=
  (ok.ack fJ).put fun j ae => by
    obtain ⟨c, aj⟩ := iV j ae;exact ⟨c, hL aj⟩
theorem uz.mono {K lg : aI → aA → Prop} (ok : s.cE) {T : Nat → Bool} (h : uz P T R s o K) (fk : ∀ R s, s.cE → K R s → lg R s) : uz P T R s o lg := by
  obtain ⟨f, args, m0, R0, Post, aj, hp, az, hm, ap, fJ, af⟩ := h.ex;refine ⟨f, args, m0, R0, Post, aj, hp, az, hm, ap, fJ, fun r aG ay h1 h2 an aE => ?_⟩;obtain ⟨f1, k⟩ := af r aG ay h1 h2 an aE;exact ⟨f1, fk _ _ (ok.H2 an h2 _) k⟩
theorem uz.sound {K : aI → aA → Prop} {T : Nat → Bool} (h : uz P T R s o K) (hd : ∀ d, o.dst = some d → d < s.n) (aw : eA a8 bp R s a w A ad) (ok : s.cE) {lg : Act → World → Prop} (fk : ∀ ay s' a' w', s'.cE → pk a8 bp ay s' a' w' → K ay s' → lg a' w') : o.wp P a w lg Q := by
  obtain ⟨f, args, m0, R0, Post, aj, hp, az, fR, ap, fJ, af⟩ := h.ex;have hm : ∀ k cs, m0 k = some cs → s.mem k = some cs := fun k cs h => (fR k cs h).1;obtain ⟨us, cL, fS⟩ := aj.run aw.rel;unfold Oper.wp;rw [fS];refine (hp.call (s.free A ad) ad w us (aw.part hm ap fJ) az cL).mono ?_;rintro e w' ⟨v, r, aG, ay, aY, cF, rfl, jU, cj, hv, iV, bl, bJ, b3, b7, ab⟩;obtain ⟨f1, eL⟩ := af r aG ay jU iV cj.fJ fun k cs h => (bl k cs h).2
  obtain ⟨bZ, dx, cS⟩ := aw.called ok hm ap cj bl bJ (fun k c h => (f1 k c h).imp id And.left) (fun k c h aD => by
    rcases f1 k c h with ⟨cs, q⟩ | q
    · rw [hm k cs q] at aD; cases aD
    · exact q.2) b3 b7 ab
  have bR : da ((s.over aG).free (fun b => (s.free A ad b ∧ b < w.heap.size) ∨ cF b ∨ w'.heap.size ≤ b) (fun k => match aG k with | some _ => aY k | none => ad k)) (fun k => match aG k with | some _ => aY k | none => ad k) w' r v :=
    hv.map (fun b hu _ => ⟨dx b hu, rfl⟩) fun j ae => by
      obtain ⟨c, aj⟩ := iV j ae;simp only [aj]
  refine fk _ _ _ _ (cS.put fun j ae => ?_) ⟨_, _, bZ.put (fun d' e => hd d' e) bR⟩ eL;obtain ⟨c, aj⟩ := iV j ae;exact ⟨c, hL aj⟩
end
end Go.Proofs.YtbcecodakfejaaaGreat
