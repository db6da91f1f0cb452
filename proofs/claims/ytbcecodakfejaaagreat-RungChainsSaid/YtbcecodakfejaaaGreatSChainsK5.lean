/-
  My own texts, without what this claim does not need. My own text.
-/
import Derived.Laws.Slices
import Derived.Test.YtbcecodakfejaaaGreatSChainsK4
set_option maxRecDepth 100000
set_option maxHeartbeats 64000000
set_option linter.unusedVariables false
set_option linter.unusedSimpArgs false
set_option linter.unusedSectionVars false
namespace Go.Proofs.YtbcecodakfejaaaGreat
open Go.RowKit
abbrev Mem := Nat → Option (List AC)
def b3 : Mem := fun _ => none
def ej (ad : Nat → Nat) (m : Mem) (R : aI) (b : Nat) : Prop := (∃ k cs, m k = some cs ∧ ad k = b) ∨ ∃ i r, R i = some r ∧ r.own b
structure e2 (U : Nat → Prop) (ad : Nat → Nat) (W : World) (m : Mem) (R : aI) : Prop where
  dC : ∀ k cs, m k = some cs → ∃ (vs : List Value) (ty : TypeId), W.heap[ad k]? = some (.cells vs.toArray ty (0, 0)) ∧ bL U ad W cs vs ∧ ¬ U (ad k)
  fF : ∀ k cs x j, m k = some cs → x ∈ cs → x.owns j → ∃ ar, m j = some ar
  inj : ∀ k k' cs ar, m k = some cs → m k' = some ar → ad k = ad k' → k = k'
  rows : ∀ i r, R i = some r → r.ok U ad W ∧ (∀ y ∈ r.aT, y.aY = true) ∧ ∀ g, r.own g → ¬ U g ∧ ∀ k cs, m k = some cs → ad k ≠ g
  apart : ∀ i j r q, R i = some r → R j = some q → i ≠ j → ∀ g, r.own g → ¬ q.own g
def G7 (ad : Nat → Nat) (W : World) (m : Mem) (R : aI) : eZ := ⟨W, fun b => b < W.heap.size ∧ ¬ ej ad m R b, fun _ h => h.1, fun _ => none, []⟩
def bP {α : Type} (f g : Nat → Option α) : Nat → Option α := fun j => match f j with
  | some x => some x
  | none => g j
theorem jP {α : Type} {f g : Nat → Option α} {j : Nat} {x : α} (h : bP f g j = some x) : f j = some x ∨ (f j = none ∧ g j = some x) := by
  unfold bP at h;cases au : f j with
  | some y => rw [au] at h; exact .inl h
  | none => rw [au] at h; exact .inr ⟨rfl, h⟩
theorem hH {α : Type} {f g : Nat → Option α} {j : Nat} {x : α} (h : f j = some x) : bP f g j = some x := by unfold bP; rw [h]
theorem hI {α : Type} {f g : Nat → Option α} {j : Nat} (h : f j = none) : bP f g j = g j := by unfold bP; rw [h]
structure da (P : Program) (f : FuncId) (args : List ah) (m0 : Mem) (R0 : aI) (Post : ah → Mem → aI → Prop) : Prop where
  call : ∀ (U : Nat → Prop) (ad : Nat → Nat) (W : World) (vs : List Value), e2 U ad W m0 R0 → (∀ x ∈ args, ∀ j, x.owns j → ∃ cs, m0 j = some cs) → j6 U ad W args vs →
    Calls P f vs.toArray W fun e bf => ∃ v r aG ay a7 cw, e = .returned v ∧ Post r aG ay ∧ e2 cw a7 bf aG ay ∧ cX cw a7 bf r v ∧ (∀ j, r.owns j → ∃ cs, aG j = some cs) ∧
      (∀ k cs, m0 k = some cs → a7 k = ad k ∧ ∃ ar, aG k = some ar) ∧ (∀ i r, R0 i = some r → ∃ aV, ay i = some aV) ∧
      (∀ b, cw b → U b ∨ W.heap.size ≤ b ∨ ej ad m0 R0 b) ∧ (∀ b, ej a7 aG ay b → ej ad m0 R0 b ∨ W.heap.size ≤ b) ∧ j3 (G7 ad W m0 R0) bf
section
variable {P : Program} {B bw : eZ} {A bK : Nat → Prop} {s : aC} {ad : Nat → Nat} {a : Act} {w : World} {o : Oper} {R : aI} {Q : Exit → Act → World → Prop}
theorem pg.VN {U : Nat → Prop} {v : Value} {fn : Fn} {cs : List AC} (h : gE U ad w (.p (pg fn cs)) v) : ∃ vs : List Value, v = .func fn #[] vs.toArray ∧ ∀ a7, bL U a7 w cs vs := by
  obtain ⟨⟨vs, rfl, ak, al⟩, au⟩ := h;refine ⟨vs, rfl, fun a7 => ⟨ak.1, fun i x u aa hu => ?_⟩⟩;have h := ak.2 i x u aa hu;cases x with
  | c y => exact h
  | own k o => exact absurd rfl (al _ (cV aa) k)
  | p R => exact ⟨h.1, fun b ab => au b ⟨vs, rfl, i, _, u, aa, hu, ab⟩⟩
theorem sI.run {f : FuncId} {args : List ah} (al : sI P s.look o f args) (aw : Rel B A s ad a w) : ∃ us : List Value, j6 (s.free A ad) ad w args us ∧ (execOp a.eval o).run P w = .ok (.enter f us.toArray) w := by
  obtain ⟨⟨c, g, aA, yO, aR⟩, yS⟩ := al;rcases aR with ⟨bs, aq, oE, wO⟩ | ⟨cs, aq, oE⟩
  · have ky : a.eval g = .func (.func f) bs.toArray #[] := (aw.look aq).1
    refine ⟨bs ++ c.args.toList.map a.eval, ?_, ?_⟩
    · refine ⟨by have := congrArg List.length oE; simpa using this.symm, fun i x v aa hv => ?_⟩
      have h1 : (bs.map (fun b => some (xh b)) ++ c.args.toList.map s.look)[i]? = some (some x) := by rw [oE, eh, aa]; rfl
      rcases hZ i bs.length with bb | kx
      · rw [gl (by simpa using bb), eh] at h1
        rw [gl bb] at hv;rw [hv] at h1;simp only [ha, hY] at h1;subst h1;exact RJ (b6.1 wO v (cV hv))
      · rw [gL (by simpa using kx), eh] at h1
        rw [gL kx, eh] at hv;simp only [lA] at h1;cases ai : c.args.toList[i - bs.length]? with
        | none => rw [ai] at hv; cases hv
        | some y =>
          rw [ai] at h1 hv;simp only [ha, hY] at h1 hv;subst hv;exact aw.look h1
    · have e : bs.toArray ++ c.args.map a.eval ++ #[] = (bs ++ c.args.toList.map a.eval).toArray := by
        rw [Array.append_empty];apply Array.ext';simp
      simp only [execOp, aA, resolve, yO, Deferred.ofValue, ky];simp only [Sem.run_bind, Sem.run_pure, Result.andThen_ok, invoke];rw [e];exact BG yS
  · obtain ⟨vs, ky, cC⟩ := pg.VN (ad := ad) (aw.look aq)
    refine ⟨c.args.toList.map a.eval ++ vs, ?_, ?_⟩
    · refine ⟨by have := congrArg List.length oE; have h2 := (cC ad).1; simp at this ⊢; omega, fun i x v aa hv => ?_⟩
      have h1 : (c.args.toList.map s.look ++ cs.map (fun x => some (.w (.one x))))[i]? = some (some x) := by rw [oE, eh, aa]; rfl
      rcases hZ i c.args.toList.length with bb | kx
      · rw [gl (by simpa using bb), eh] at h1
        rw [gl (by simpa using bb), eh] at hv;cases ai : c.args.toList[i]? with
        | none => rw [ai] at hv; cases hv
        | some y =>
          rw [ai] at h1 hv;simp only [ha, hY] at h1 hv;subst hv;exact aw.look h1
      · rw [gL (by simpa using kx), eh] at h1
        rw [gL (by simpa using kx)] at hv;simp only [lA] at h1 hv;cases ai : cs[i - c.args.toList.length]? with
        | none => rw [ai] at h1; cases h1
        | some y =>
          rw [ai] at h1;simp only [ha, hY] at h1;subst h1;exact (cC ad).2 _ y v ai hv
    · have e : (#[] : Array Value) ++ c.args.map a.eval ++ vs.toArray = (c.args.toList.map a.eval ++ vs).toArray := by
        apply Array.ext';simp
      simp only [execOp, aA, resolve, yO, Deferred.ofValue, ky];simp only [Sem.run_bind, Sem.run_pure, Result.andThen_ok, invoke];rw [e];exact BG yS
theorem ev.part (aw : ev bw bK R s a w A ad) {m0 : Mem} {R0 : aI} (hm : ∀ k cs, m0 k = some cs → s.mem k = some cs) (ap : bz R0 R) (fF : ∀ k cs x j, m0 k = some cs → x ∈ cs → x.owns j → ∃ ar, m0 j = some ar) : e2 (s.free A ad) ad w m0 R0 := by
  refine ⟨fun k cs af => ?_, fF, fun k k' cs ar af eI e => aw.rel.inj k k' cs ar (hm k cs af) (hm k' ar eI) e, fun i r hi => ?_, fun i j r q hi ae => aw.apart i j r q (ap i r hi) (ap j q ae)⟩
  · obtain ⟨vs, ty, h1, h2, _⟩ := aw.rel.dC k cs (hm k cs af)
    exact ⟨vs, ty, h1, h2, fun h => h.2 k cs (hm k cs af) rfl⟩
  · obtain ⟨h1, h2, ao⟩ := aw.rows i r (ap i r hi)
    exact ⟨h1, h2, fun g aq => ⟨fun h => (ao g aq).1 h.1, fun k cs af => (ao g aq).2 k cs (hm k cs af)⟩⟩
theorem ev.Zb (aw : ev bw bK R s a w A ad) {m0 : Mem} {R0 : aI} (hm : ∀ k cs, m0 k = some cs → s.mem k = some cs) (ap : bz R0 R) {b : Nat} (h : ej ad m0 R0 b) : b < w.heap.size := by
  rcases h with ⟨k, cs, af, rfl⟩ | ⟨i, r, hi, aq⟩
  · exact aw.rel.lt (hm k cs af)
  · exact (aw.rows i r (ap i r hi)).ok.lt aq
def aC.over (s : aC) (aG : Mem) : aC := { s with mem := bP aG s.mem }
theorem ev.called (aw : ev bw bK R s a w A ad) (ok : s.cN) {m0 aG : Mem} {R0 ay : aI} {a7 : Nat → Nat} {cw : Nat → Prop} {w' : World} (hm : ∀ k cs, m0 k = some cs → s.mem k = some cs) (ap : bz R0 R)
    (cI : e2 cw a7 w' aG ay) (bn : ∀ k cs, m0 k = some cs → a7 k = ad k ∧ ∃ ar, aG k = some ar) (bY : ∀ i r, R0 i = some r → ∃ aV, ay i = some aV) (f1 : ∀ k ar, aG k = some ar → (∃ cs, m0 k = some cs) ∨ s.mem k = none) (fn : ∀ k ar, aG k = some ar → s.mem k = none → k < s.n)
    (cy : ∀ b, cw b → s.free A ad b ∨ w.heap.size ≤ b ∨ ej ad m0 R0 b) (cz : ∀ b, ej a7 aG ay b → ej ad m0 R0 b ∨ w.heap.size ≤ b) (ab : j3 (G7 ad w m0 R0) w') :
    ev bw bK (bP ay R) (s.over aG) a w' (fun b => (s.free A ad b ∧ b < w.heap.size) ∨ cw b ∨ w'.heap.size ≤ b) (fun k => match aG k with | some _ => a7 k | none => ad k) ∧
      (∀ b, cw b → (s.over aG).free (fun b => (s.free A ad b ∧ b < w.heap.size) ∨ cw b ∨ w'.heap.size ≤ b) (fun k => match aG k with | some _ => a7 k | none => ad k) b) ∧ (s.over aG).cN := by
  have bb : ∀ b, ej ad m0 R0 b → b < w.heap.size := fun b h => aw.Zb hm ap h
  have jr : ∀ k, (∃ cs, s.mem k = some cs) → (match aG k with | some _ => a7 k | none => ad k) = ad k := by
    rintro k ⟨cs, af⟩;cases fq : aG k with
    | none => rfl
    | some ar =>
      rcases f1 k ar fq with ⟨uJ, az⟩ | az
      · exact (bn k uJ az).1
      · rw [az] at af; cases af
  have ZM : ∀ k ar, aG k = some ar → (match aG k with | some _ => a7 k | none => ad k) = a7 k := fun k ar h => by rw [h]
  have rW : ∀ b, s.free A ad b → ¬ ej ad m0 R0 b := by
    rintro b au (⟨k, cs, af, rfl⟩ | ⟨i, r, hi, aq⟩)
    · exact au.2 k cs (hm k cs af) rfl
    · exact ((aw.rows i r (ap i r hi)).own b aq).1 au.1
  have uY : ∀ b, b < w.heap.size → ¬ ej ad m0 R0 b → w'.heap[b]? = w.heap[b]? := fun b h1 h2 => ab.block b ⟨h1, h2⟩;have bF : w.heap.size ≤ w'.heap.size := ab.size
  have Cq : ∀ b, ej a7 aG ay b → b < w'.heap.size := by
    rintro b (⟨k, cs, af, rfl⟩ | ⟨i, r, hi, aq⟩)
    · obtain ⟨vs, ty, h1, _⟩ := cI.dC k cs af
      exact (jU.1 h1).1
    · exact (cI.rows i r hi).1.lt aq
 
  have zE : ∀ k cs, aG k = none → s.mem k = some cs → ¬ ej ad m0 R0 (ad k) := by
    rintro k cs ax af (⟨j, uJ, ae, e⟩ | ⟨i, r, hi, aq⟩)
    · have bo : j = k := aw.rel.inj j k _ _ (hm j uJ ae) af e
      subst bo;obtain ⟨_, ar, h⟩ := bn j uJ ae;rw [ax] at h; cases h
    · exact ((aw.rows i r (ap i r hi)).own _ aq).2 k cs af rfl
  have Aa : ∀ i r, ay i = none → R i = some r → ∀ g, r.own g → ¬ ej ad m0 R0 g := by
    rintro i r ax hi g aq (⟨j, uJ, ae, e⟩ | ⟨fs, aV, c4, dW⟩)
    · exact ((aw.rows i r hi).own _ aq).2 j uJ (hm j uJ ae) e
    · by_cases e : i = fs
      · subst e
        obtain ⟨q, h⟩ := bY i aV c4;rw [ax] at h; cases h
      · exact aw.apart i fs r aV hi (ap fs aV c4) e g aq dW
  have xu : ∀ i r, R i = some r → ∀ g, r.own g → g < w.heap.size := fun i r hi g aq => (aw.rows i r hi).ok.lt aq
  have Gu : ∀ b, cw b → ¬ ej a7 aG ay b := by
    rintro b hu (⟨k, cs, af, rfl⟩ | ⟨i, r, hi, aq⟩)
    · obtain ⟨_, _, _, _, h⟩ := cI.dC k cs af; exact h hu
    · exact ((cI.rows i r hi).2.2 b aq).1 hu
  have F0 : ∀ b, s.free A ad b → b < w.heap.size → (s.over aG).free (fun b => (s.free A ad b ∧ b < w.heap.size) ∨ cw b ∨ w'.heap.size ≤ b) (fun k => match aG k with | some _ => a7 k | none => ad k) b := by
    intro b au ak;refine ⟨.inl ⟨au, ak⟩, fun k cs af => ?_⟩;rcases jP (show bP aG s.mem k = some cs from af) with h | ⟨h, aK⟩
    · simp only [h]
      intro e;rcases cz b (.inl ⟨k, cs, h, e⟩) with q | q
      · exact rW b au q
      · omega
    · simp only [h]; exact au.2 k cs aK
  have F1 : ∀ b, cw b → (s.over aG).free (fun b => (s.free A ad b ∧ b < w.heap.size) ∨ cw b ∨ w'.heap.size ≤ b) (fun k => match aG k with | some _ => a7 k | none => ad k) b := by
    intro b hu;refine ⟨.inr (.inl hu), fun k cs af => ?_⟩;rcases jP (show bP aG s.mem k = some cs from af) with h | ⟨h, aK⟩
    · simp only [h]
      intro e;exact Gu b hu (.inl ⟨k, cs, h, e⟩)
    · simp only [h]
      intro e;subst e;rcases cy _ hu with q | q | q
      · exact q.2 k cs aK rfl
      · have := aw.rel.lt aK; omega
      · exact zE k cs h aK q
  have cT : (s.over aG).cN := by
    have zx : ∀ j, (∃ cs, s.mem j = some cs) → ∃ cs, (s.over aG).mem j = some cs := by
      rintro j ⟨cs, h⟩;show ∃ cs, bP aG s.mem j = some cs;cases fq : aG j with
      | some c => exact ⟨c, hH fq⟩
      | none => exact ⟨cs, by rw [hI fq]; exact h⟩
    refine ⟨fun t av j aB ae => zx j (ok.hc t av j aB ae), fun k cs x j af aa ae => ?_⟩;rcases jP (show bP aG s.mem k = some cs from af) with h | ⟨h, aK⟩
    · obtain ⟨c, al⟩ := cI.fF k cs x j h aa ae
      exact ⟨c, hH al⟩
    · exact zx j (ok.dC k cs x j aK aa ae)
  have abp : ∀ k cs, m0 k = some cs → ej a7 aG ay (ad k) := fun k cs af => by
    obtain ⟨e, ar, h⟩ := bn k cs af;exact .inl ⟨k, ar, h, e⟩
  have NE : ∀ b, ej ad m0 R0 b → ¬ bw.F b := by
    rintro b (⟨k, cs, af, rfl⟩ | ⟨i, r, hi, aq⟩)
    · exact aw.oO k cs (hm k cs af)
    · exact (aw.hot i r b (ap i r hi) aq).1
  have PB : ∀ b, w.heap.size ≤ b → ¬ bw.F b := fun b h au => by have := bw.lt b au; have := aw.below.size; omega
  refine ⟨⟨aw.up, ?_, ?_, fun k cs af au => ?_, ⟨ab.os.trans aw.below.os, ab.tape.trans aw.below.tape, ab.output.trans aw.below.output, il aw.below.size ab.size, fun b au => ?_⟩, fun i r hi => ?_, fun i j r q hi ae gH g aq => ?_, fun i r g hi aq => ?_, fun k b af => ?_⟩, F1, cT⟩
  · rintro b (h | h | h)
    · exact aw.sub b h.1.1
    · rcases cy b h with q | q | ⟨k, cs, af, rfl⟩ | ⟨i, r, hi, aq⟩
      · exact aw.sub b q.1
      · exact aw.up b (il aw.below.size q)
      · exact absurd (abp k cs af) (Gu _ h)
      · exact (aw.hot i r b (ap i r hi) aq).2
    · exact aw.up b (by have := aw.below.size; omega)
  · refine ⟨aw.rel.pY, aw.rel.size, fun t av aB => ?_, fun k cs af => ?_, fun k k' cs ar af eI e => ?_, j3.refl _, fun b h => .inr (.inr h), wH _ _ _⟩
    · obtain ⟨v, h1, h2⟩ := aw.rel.hc t av aB
      exact ⟨v, h1, h2.map (fun b au ak => ⟨F0 b au ak, uY b ak (rW b au)⟩) fun j ae => jr j (ok.hc t av j aB ae)⟩
    · rcases jP (show bP aG s.mem k = some cs from af) with h | ⟨h, aK⟩
      · obtain ⟨vs, ty, h1, h2, _⟩ := cI.dC k cs h
        refine ⟨vs, ty, by simp only [h]; exact h1, h2.map (fun b hu _ => ⟨F1 b hu, rfl⟩) fun j x aa ae => ?_, fun au => au.2 k cs af rfl⟩;obtain ⟨c, al⟩ := cI.fF k cs x j h aa ae;exact ZM j c al
      · obtain ⟨vs, ty, h1, h2, _⟩ := aw.rel.dC k cs aK
        refine ⟨vs, ty, by simp only [h]; rw [uY _ (aw.rel.lt aK) (zE k cs h aK)]; exact h1, h2.map (fun b au ak => ⟨F0 b au ak, uY b ak (rW b au)⟩) fun j x aa ae => jr j (ok.dC k cs x j aK aa ae), fun au => au.2 k cs af rfl⟩
    · rcases jP (show bP aG s.mem k = some cs from af) with h | ⟨h, aK⟩
      · rcases jP (show bP aG s.mem k' = some ar from eI) with g | ⟨g, jn⟩
        · simp only [h, g] at e
          exact cI.inj k k' cs ar h g e
        · simp only [h, g] at e
          rcases cz _ (.inl ⟨k, cs, h, e⟩) with q | q
          · exact absurd q (zE k' ar g jn)
          · have := aw.rel.lt jn; omega
      · rcases jP (show bP aG s.mem k' = some ar from eI) with g | ⟨g, jn⟩
        · simp only [h, g] at e
          rcases cz _ (.inl ⟨k', ar, g, e.symm⟩) with q | q
          · exact absurd q (zE k cs h aK)
          · have := aw.rel.lt aK; omega
        · simp only [h, g] at e
          exact aw.rel.inj k k' cs ar aK jn e
  · rcases jP (show bP aG s.mem k = some cs from af) with h | ⟨h, aK⟩
    · simp only [h] at au
      rcases cz _ (.inl ⟨k, cs, h, rfl⟩) with q | q
      · exact NE _ q au
      · exact PB _ q au
    · simp only [h] at au
      exact aw.oO k cs aK au
  · exact (uY b (sn (bw.lt b au) aw.below.size) fun h => NE b h au).trans (aw.below.block b au)
  · rcases jP hi with h | ⟨h, aK⟩
    · obtain ⟨lp, al, aq⟩ := cI.rows i r h
      refine ⟨lp.kept al (fun _ _ => rfl) (dE _) (fun b hu _ => ⟨F1 b hu, rfl⟩), al, fun g q => ?_⟩;have aR : ej a7 aG ay g := .inr ⟨i, r, h, q⟩;refine ⟨?_, fun k cs af => ?_⟩
      · rintro (z | z | z)
        · rcases cz g aR with y | y
          · exact rW g z.1 y
          · omega
        · exact Gu g z aR
        · have := Cq g aR; omega
      · rcases jP (show bP aG s.mem k = some cs from af) with y | ⟨y, y'⟩
        · simp only [y]; exact (aq g q).2 k cs y
        · simp only [y]
          intro e;subst e;rcases cz _ aR with z | z
          · exact zE k cs y y' z
          · have := aw.rel.lt y'; omega
    · obtain ⟨lp, al, aq⟩ := aw.rows i r aK
      refine ⟨lp.kept al (fun g q => uY g (xu i r aK g q) (Aa i r h aK g q)) bF (fun b au dc => ⟨F0 b au dc, uY b dc (rW b au)⟩), al, fun g q => ⟨?_, fun k cs af => ?_⟩⟩
      · rintro (z | z | z)
        · exact (aq g q).1 z.1.1
        · rcases cy g z with y | y | y
          · exact (aq g q).1 y.1
          · have := xu i r aK g q; omega
          · exact Aa i r h aK g q y
        · have := xu i r aK g q; omega
      · rcases jP (show bP aG s.mem k = some cs from af) with y | ⟨y, y'⟩
        · simp only [y]
          intro e;rcases cz g (.inl ⟨k, cs, y, e⟩) with z | z
          · exact Aa i r h aK g q z
          · have := xu i r aK g q; omega
        · simp only [y]; exact (aq g q).2 k cs y'
  · rcases jP hi with h | ⟨h, aK⟩
    · rcases jP ae with y | ⟨y, y'⟩
      · exact cI.apart i j r q h y gH g aq
      · intro an
        rcases cz g (.inr ⟨i, r, h, aq⟩) with z | z
        · exact Aa j q y y' g an z
        · have := xu j q y' g an; omega
    · rcases jP ae with y | ⟨y, y'⟩
      · intro an
        rcases cz g (.inr ⟨j, q, y, an⟩) with z | z
        · exact Aa i r h aK g aq z
        · have := xu i r aK g aq; omega
      · exact aw.apart i j r q aK y' gH g aq
  · rcases jP hi with h | ⟨h, aK⟩
    · rcases cz g (.inr ⟨i, r, h, aq⟩) with (⟨k, cs, af, e⟩ | ⟨j, q, ae, an⟩) | z
      · obtain ⟨bo, ar, az⟩ := bn k cs af
        exact absurd (bo.trans e) (((cI.rows i r h).2.2 g aq).2 k ar az)
      · exact aw.hot j q g (ap j q ae) an
      · exact ⟨PB g z, aw.up g (by have := aw.below.size; omega)⟩
    · exact aw.hot i r g aK aq
  · obtain ⟨h1, h2⟩ := aw.j7 k b af
    refine ⟨h1, ?_⟩;cases fq : aG k with
    | none => exact h2
    | some c =>
      rcases f1 k c fq with ⟨cs, az⟩ | az
      · exact (bn k cs az).1.trans h2
      · exact absurd (fn k c fq az) (Nat.not_lt.2 h1)
structure uu (P : Program) (T : Nat → Bool) (R : aI) (s : aC) (o : Oper) (K : aI → aC → Prop) : Prop where
  ex : ∃ f args m0 R0 Post, sI P s.look o f args ∧ da P f args m0 R0 Post ∧ (∀ x ∈ args, ∀ j, x.owns j → ∃ cs, m0 j = some cs) ∧ (∀ k cs, m0 k = some cs → s.mem k = some cs ∧ (T k = true ∨ ∀ r aG ay, Post r aG ay → aG k = some cs)) ∧ bz R0 R ∧ (∀ k cs x j, m0 k = some cs → x ∈ cs → x.owns j → ∃ ar, m0 j = some ar) ∧
    ∀ r aG ay, Post r aG ay → (∀ j, r.owns j → ∃ cs, aG j = some cs) → (∀ k cs x j, aG k = some cs → x ∈ cs → x.owns j → ∃ ar, aG j = some ar) → (∀ k cs, m0 k = some cs → ∃ ar, aG k = some ar) →
      (∀ k ar, aG k = some ar → (∃ cs, m0 k = some cs) ∨ (s.mem k = none ∧ k < s.n)) ∧ K (bP ay R) ((s.over aG).put o.dst r)
theorem aC.cN.acF {aG : Mem} (ok : s.cN) (fF : ∀ k cs x j, aG k = some cs → x ∈ cs → x.owns j → ∃ ar, aG j = some ar) : (s.over aG).cN := by
  have zx : ∀ j, (∃ cs, s.mem j = some cs) → ∃ cs, (s.over aG).mem j = some cs := by
    rintro j ⟨cs, h⟩;show ∃ cs, bP aG s.mem j = some cs;cases fq : aG j with
    | some c => exact ⟨c, hH fq⟩
    | none => exact ⟨cs, by rw [hI fq]; exact h⟩
  refine ⟨fun t av j aB ae => zx j (ok.hc t av j aB ae), fun k cs x j af aa ae => ?_⟩;rcases jP (show bP aG s.mem k = some cs from af) with h | ⟨h, aK⟩
  · obtain ⟨c, al⟩ := fF k cs x j h aa ae
    exact ⟨c, hH al⟩
  · exact zx j (ok.dC k cs x j aK aa ae)
theorem aC.cN.Ig {aG : Mem} {r : ah} (ok : s.cN) (fF : ∀ k cs x j, aG k = some cs → x ∈ cs → x.owns j → ∃ ar, aG j = some ar) (iV : ∀ j, r.owns j → ∃ cs, aG j = some cs) (dst : Option Nat) : ((s.over aG).put dst r).cN :=
  (ok.acF fF).put fun j ae => by
    obtain ⟨c, al⟩ := iV j ae;exact ⟨c, hH al⟩
theorem uu.mono {K ld : aI → aC → Prop} (ok : s.cN) {T : Nat → Bool} (h : uu P T R s o K) (fg : ∀ R s, s.cN → K R s → ld R s) : uu P T R s o ld := by
  obtain ⟨f, args, m0, R0, Post, al, hp, aA, hm, ap, fF, af⟩ := h.ex;refine ⟨f, args, m0, R0, Post, al, hp, aA, hm, ap, fF, fun r aG ay h1 h2 ao aD => ?_⟩;obtain ⟨f1, k⟩ := af r aG ay h1 h2 ao aD;exact ⟨f1, fg _ _ (ok.Ig ao h2 _) k⟩
theorem uu.sound {K : aI → aC → Prop} {T : Nat → Bool} (h : uu P T R s o K) (hd : ∀ d, o.dst = some d → d < s.n) (aw : ev bw bK R s a w A ad) (ok : s.cN) {ld : Act → World → Prop} (fg : ∀ ay s' a' w', s'.cN → pq bw bK ay s' a' w' → K ay s' → ld a' w') : o.wp P a w ld Q := by
  obtain ⟨f, args, m0, R0, Post, al, hp, aA, fq, ap, fF, af⟩ := h.ex;have hm : ∀ k cs, m0 k = some cs → s.mem k = some cs := fun k cs h => (fq k cs h).1;obtain ⟨us, cK, gI⟩ := al.run aw.rel;unfold Oper.wp;rw [gI];refine (hp.call (s.free A ad) ad w us (aw.part hm ap fF) aA cK).mono ?_;rintro e w' ⟨v, r, aG, ay, a7, cw, rfl, jJ, cI, hv, iV, bn, bY, cy, cz, ab⟩;obtain ⟨f1, eI⟩ := af r aG ay jJ iV cI.fF fun k cs h => (bn k cs h).2
  obtain ⟨ct, di, dO⟩ := aw.called ok hm ap cI bn bY (fun k c h => (f1 k c h).imp id And.left) (fun k c h az => by
    rcases f1 k c h with ⟨cs, q⟩ | q
    · rw [hm k cs q] at az; cases az
    · exact q.2) cy cz ab
  have bQ : cX ((s.over aG).free (fun b => (s.free A ad b ∧ b < w.heap.size) ∨ cw b ∨ w'.heap.size ≤ b) (fun k => match aG k with | some _ => a7 k | none => ad k)) (fun k => match aG k with | some _ => a7 k | none => ad k) w' r v :=
    hv.map (fun b hu _ => ⟨di b hu, rfl⟩) fun j ae => by
      obtain ⟨c, al⟩ := iV j ae;simp only [al]
  refine fg _ _ _ _ (dO.put fun j ae => ?_) ⟨_, _, ct.put (fun d' e => hd d' e) bQ⟩ eI;obtain ⟨c, al⟩ := iV j ae;exact ⟨c, hH al⟩
end
def v7 (o : Oper) : Bool := match o.op with
  | .call ⟨.builtin .append, _, _⟩ => true
  | .call ⟨.builtin .copy, _, _⟩ => true
  | _ => false
def u3 (o : Oper) : Bool := match o.op with
  | .call ⟨.builtin .append, _, _⟩ => true
  | .call ⟨.builtin .copy, _, _⟩ => true
  | .buildSlice .. => true
  | .makeSlice .. => true
  | _ => false
def VK (o : Oper) : Bool := match o.op with
  | .call ⟨.value _, _, _⟩ => true
  | _ => false
def agA (o : Oper) : Bool := match o.op with
  | .store .. => true
  | _ => false
def dY (dr : Option (List Nat)) (o : Oper) : Bool := (VK o && match dr with
  | none => true
  | some hs => hs.contains (o.dst.getD 1000000)) || (agA o && match dr with
  | none => false
  | some hs => hs.contains 4000000)
def R9 (dr : Option (List Nat)) (o : Oper) : Bool := match dr with
  | none => true
  | some _ => dY dr o
def rG (dr : Option (List Nat)) (o : Oper) : Bool := match dr with
  | none => false
  | some hs => hs.contains (3000000 + o.dst.getD 0)
def pb (dr : Option (List Nat)) (k : Nat) : Bool := match dr with
  | none => true
  | some hs => hs.contains (2000000 + k)
def qV (dr : Option (List Nat)) (look : Operand → Option ah) (o : Oper) : Bool := match dr with
  | none => true
  | some hs => bif hs.isEmpty then true else match o.op with
    | .load _ x => match look x with
      | some (.w (.one (.own k _))) => !hs.contains (2000000 + k)
      | _ => true
    | _ => true
def k4 (o : Oper) : Bool := match o.op with
  | .store .. => true
  | .alloc _ => true
  | .box .. => true
  | _ => false
def zZ (ops : Array Oper) (hs : List Nat) (dst : Option Nat) : Bool := (List.range ops.size).all fun k => match ops[k]? with
  | some ok => !(ok.dst == dst) || (List.range ops.size).all fun j => match ops[j]? with
    | some bu => !(v7 bu || dY (some hs) bu) || waits .any ops 8 j k
    | none => true
  | none => true
def tX (ops : Array Oper) (dr : Option (List Nat)) (dst : Option Nat) : Bool := match dr with
  | none => true
  | some hs => zZ ops hs dst
inductive rv (P : Program) (ops : Array Oper) (dr : Option (List Nat)) (R : aI) (s : aC) (o : Oper) : Bool → ca → Prop
  | kS (b : Bool) (e : ca) (h : eW P s.n s.look s.mem o b e) (aB : qV dr s.look o = true) : rv P ops dr R s o b e
  | read (av : ah) (h : kN P R s.look o av) (al : av.closed) (ap : tX ops dr o.dst = true) : rv P ops dr R s o true ⟨av, none⟩
def uS (P : Program) (ops : Array Oper) (dr : Option (List Nat)) (o : Oper) (K : aI → aC → Prop) (R : aI) (s : aC) : Prop :=
  ∃ b, want ops o s = some b ∧ (∀ d, o.dst = some d → d < s.n) ∧ ((∃ e, rv P ops dr R s o b e ∧ K R (e.on o.dst s)) ∨ (b = true ∧ ∃ d f, ∃ hq : Value → Prop, o.dst = some d ∧ (kO P R s.look o f hq ∧ rG dr o = false) ∧ ∀ v' : Value, hq v' → K (f v') (s.put (some d) (aQ v'))) ∨ (b = true ∧ R9 dr o = true ∧ ∃ ay, o.dst = none ∧ sL P R s.look o ay ∧ K ay s) ∨
    (b = true ∧ dr = none ∧ ∃ d f i, ∃ g : Value → bE, o.dst = some d ∧ kO P R s.look o f A0 ∧ (∀ v', f v' i = some (g v') ∧ (g v').v = v' ∧ 0 < (g v').sz) ∧ ∀ v' : Value, v'.oneCell' = true → K (fun j => if j = i then none else f v' j) (s.put (some d) (cM (g v').sz (g v').n (g v').aT))) ∨
    (b = true ∧ dY dr o = true ∧ uu P (pb dr) R s o K) ∨
    (b = true ∧ dY dr o = true ∧ uu P (pb dr) R s o fun ay s' => ∃ i d r, o.dst = some d ∧ ay i = some r ∧ 0 < r.sz ∧ s'.tmps d = some (aQ r.v) ∧ d < s'.n ∧ K (fun j => if j = i then none else ay j) (s'.put (some d) (cM r.sz r.n r.aT))))
def cJ (P : Program) (ops : Array Oper) (dr : Option (List Nat)) (K : aI → aC → Prop) : List Oper → aI → aC → Prop
  | [], R, s => K R s
  | o :: rest, R, s => uS P ops dr o (cJ P ops dr K rest) R s
def wE (P : Program) (md : Region.Mode) (ops : Array Oper) (hs : List Nat) (K : aI → aC → Prop) : Nat → Array Bool → aI → aC → Prop
  | 0, br, R, s => Region.ready md ops br = [] ∧ K R s
  | fa + 1, br, R, s => (Region.ready md ops br = [] → K R s) ∧
    ∀ i ∈ Region.ready md ops br, ∀ o, ops[i]? = some o → uS P ops (some hs) o (wE P md ops hs K fa (br.setIfInBounds i true)) R s
section
variable {P : Program} {bw : eZ} {bK A : Nat → Prop} {R : aI} {s s' : aC} {a a' : Act} {w w' : World} {ad a7 : Nat → Nat} {o bm bu : Oper} {ops : Array Oper} {md : Region.Mode} {dr : Option (List Nat)} {hs : List Nat}
theorem rv.ok {b : Bool} {e : ca} (ok : s.cN) (h : rv P ops dr R s o b e) (hd : ∀ d, o.dst = some d → d < s.n) : (e.on o.dst s).cN := by
  cases h with
  | kS b e h aB => exact yv ok h hd
  | read av h al ap => exact ok.put fun j ae => absurd ae (al j)
theorem IB (ok : s.cN) (d : Nat) (v : Value) : (s.put (some d) (aQ v)).cN := ok.put fun j ae => absurd ae (ja v j)
theorem MZ {K ld : aI → aC → Prop} (ok : s.cN) (h : ∀ R s, s.cN → K R s → ld R s) (aR : uS P ops dr o K R s) : uS P ops dr o ld R s := by
  obtain ⟨b, hw, hd, h1 | ⟨ab, d, f, hq, dA, au, af⟩ | ⟨ab, oF, ay, dA, au, af⟩ | ⟨ab, oF, d, f, i, g, dA, au, aq, af⟩ | ⟨ab, hm, al⟩ | ⟨ab, hm, al⟩⟩ := aR
  · obtain ⟨e, he, af⟩ := h1
    exact ⟨b, hw, hd, .inl ⟨e, he, h _ _ (he.ok ok hd) af⟩⟩
  · exact ⟨b, hw, hd, .inr (.inl ⟨ab, d, f, hq, dA, au, fun v' hv => h _ _ (IB ok d v') (af v' hv)⟩)⟩
  · exact ⟨b, hw, hd, .inr (.inr (.inl ⟨ab, oF, ay, dA, au, h _ _ ok af⟩))⟩
  · exact ⟨b, hw, hd, .inr (.inr (.inr (.inl ⟨ab, oF, d, f, i, g, dA, au, aq, fun v' hv => h _ _ (ok.put fun j ae => absurd ae (ly _ j)) (af v' hv)⟩)))⟩
  · exact ⟨b, hw, hd, .inr (.inr (.inr (.inr (.inl ⟨ab, hm, al.mono ok h⟩))))⟩
  · refine ⟨b, hw, hd, .inr (.inr (.inr (.inr (.inr ⟨ab, hm, al.mono ok fun R s acz af => ?_⟩))))⟩
    obtain ⟨i, d, r, az, h1, aN, h2, ao, aD⟩ := af;exact ⟨i, d, r, az, h1, aN, h2, ao, h _ _ (acz.put fun j ae => absurd ae (ly _ j)) aD⟩
theorem ev.uI (aw : ev bw bK R s a w A ad) (i d : Nat) (r : bE) (hi : R i = some r) (bF : 0 < r.sz) (Yr : s.tmps d = some (aQ r.v)) (fU : d < s.n) : ∃ dU, ev bw bK (fun j => if j = i then none else R j) (s.put (some d) (cM r.sz r.n r.aT)) a w dU ad := by
  obtain ⟨oH, cC, aq⟩ := aw.rows i r hi;obtain ⟨xs, aA, ak⟩ := oH.row bF;have uR : ∀ b, s.free A ad b → b < w.heap.size → s.free (fun b => A b ∨ r.v.ownBlock = some b) ad b ∧ w.heap[b]? = w.heap[b]? := fun b ab _ => ⟨⟨.inl ab.1, ab.2⟩, rfl⟩;have Gr : Rel (nW bw s ad w) (fun b => A b ∨ r.v.ownBlock = some b) s ad a w := aw.rel.yj (fun b ab _ => ⟨.inl ab, rfl⟩) (fun k cs af => ⟨rfl, fun au => au.2 k cs af rfl⟩) (j3.refl _) (fun b ab => .inl (aw.rel.up b ab)) (wH _ _ _)
  have wG : ev bw bK (fun j => if j = i then none else R j) s a w (fun b => A b ∨ r.v.ownBlock = some b) ad := by
    refine ⟨aw.up, ?_, Gr, aw.oO, aw.below, fun j q ae => ?_, fun j k q cd ae af kz => ?_, fun j q g ae => ?_, aw.j7⟩
    · rintro b (ab | ab)
      · exact aw.sub b ab
      · exact (aw.hot i r b hi (.inl ab)).2
    · have gy : j ≠ i := fun e => by rw [if_pos e] at ae; cases ae
      rw [if_neg gy] at ae;obtain ⟨lp, At, Au⟩ := aw.rows j q ae;refine ⟨lp.kept At (fun _ _ => rfl) (dE _) uR, At, fun g dW => ⟨?_, (Au g dW).2⟩⟩;rintro (ab | ab)
      · exact (Au g dW).1 ab
      · exact aw.apart i j r q hi ae (Ne.symm gy) g (.inl ab) dW
    · have gy : j ≠ i := fun e => by rw [if_pos e] at ae; cases ae
      have hA : k ≠ i := fun e => by rw [if_pos e] at af; cases af
      rw [if_neg gy] at ae;rw [if_neg hA] at af;exact aw.apart j k q cd ae af kz
    · have gy : j ≠ i := fun e => by rw [if_pos e] at ae; cases ae
      rw [if_neg gy] at ae;exact aw.hot j q g ae
  have Gs : Rel (nW bw s ad w) (fun b => A b ∨ r.v.ownBlock = some b) (s.put (some d) (cM r.sz r.n r.aT)) ad a w := by
    refine wG.rel.Rw Yr fun v iW nk => ?_;obtain ⟨rfl, Gb⟩ := nk;have nY := ak.1;obtain ⟨kZ, ax | ⟨g, cap, cur, ky, qH, uW, eO, iS, eu, n3⟩⟩ := id aA
    · obtain ⟨aF, aP⟩ := ax
      have : r.aT = [] := jv (by rw [nY, kZ, aP]; simp);rw [aF];exact ⟨⟨none, 0, by rw [aP], by omega, by rw [this, aP]; simp, fun h => absurd h (by omega)⟩, fun b ⟨c', a', q, ax, ab⟩ => by cases q⟩
    · have tj := aA.cells (g := g) (by rw [ky]; rfl)
      rw [ky];have qE : kL w ⟨g, 0, none⟩ r.aT xs := ⟨(jU.1 uW).1, ak.wo cC fun b _ _ => ⟨trivial, rfl⟩, tj, cC⟩;refine ⟨⟨some ⟨g, 0, none⟩, cap, rfl, eO, by rw [nY]; exact kZ, fun ax => ⟨⟨g, 0, none⟩, xs, rfl, qE⟩⟩, ?_⟩;rintro b ⟨c', a', q, ax, au⟩;cases q;rcases au with rfl | ⟨j, y, v, ai, hv, gx⟩
      · exact ⟨.inr rfl, (aq g (.inl (by rw [ky]; rfl))).2⟩
      · have bb : j < xs.length := by rw [← nY]; exact (bA.1 ai).1
        have h2 := tj j _ (bJ bb);rw [hv] at h2;cases h2;have ao := ak.2 j y _ ai (bJ bb);cases y with
        | c u => cases gx
        | own k o => cases gx
        | p S => have := ao.2 b gx; exact ⟨.inl this.1, this.2⟩
  exact ⟨_, wG.next (s' := s.put (some d) (cM r.sz r.n r.aT)) (a' := a) (w' := w) (a7 := ad) Gs⟩
theorem zV (s : aC) (d : Nat) (u v : ah) : (s.put (some d) u).put (some d) v = s.put (some d) v := by
  simp only [aC.put, aC.mk.injEq, true_and, and_true];funext j
  by_cases e : j = d
  · subst e; rw [cl, cl]
  · rw [b9 _ _ e, b9 _ _ e, b9 _ _ e]
theorem M0 {ro : Option Nat} {K : aI → aC → Prop} {ld : Act → World → Prop} {Q : Exit → Act → World → Prop} {i : Nat} (hi : ops[i]? = some o) (ok : s.cN) (aw : pq bw bK R s a w) (h : uS P ops dr o K R s)
    (fg : ∀ ay s' a' w', s'.cN → pq bw bK ay s' a' w' → K ay s' → ld a' w') : wpOpIn (mm ro) 0 P ops Q i ld a w := by
  obtain ⟨A, ad, aw⟩ := aw;obtain ⟨b, hw, hd, h⟩ := h;have nl := SG hw aw.rel;unfold wpOpIn;simp only [hi];cases b with
  | true =>
    rw [nl];simp only [if_true];refine Oper.SK ?_ ?nd
    case nd =>
      rcases h with ⟨e, he, _⟩ | ⟨_, d, f, hq, dA, ⟨au, _⟩, _⟩ | ⟨_, _, ay, dA, au, _⟩ | ⟨_, _, d, f, i, g, dA, au, _⟩ | ⟨_, _, al⟩ | ⟨_, _, al⟩
      · cases he with
        | kS b e he _ => exact (he.step hd).PF aw.rel
        | read av h al ap =>
          obtain ⟨v, h1, h2⟩ := h.sound aw;exact xg h1 (fun d h => by cases h)
      · obtain ⟨v', w2, dU, h1, _⟩ := au.sound aw (hd d dA)
        exact xg h1 (fun d h => by cases h)
      · obtain ⟨w2, dU, h1, _⟩ := au.sound aw
        exact xg h1 (fun d h => by cases h)
      · obtain ⟨v', w2, dU, h1, _⟩ := au.sound aw (hd d dA)
        exact xg h1 (fun d h => by cases h)
      · obtain ⟨f, args, m0, R0, Post, ⟨⟨c', g, aA, _⟩, _⟩, _⟩ := al.ex
        intro c iR; rw [aA] at iR; cases iR
      · obtain ⟨f, args, m0, R0, Post, ⟨⟨c', g, aA, _⟩, _⟩, _⟩ := al.ex
        intro c iR; rw [aA] at iR; cases iR
    rcases h with ⟨e, he, af⟩ | ⟨_, d, f, hq, dA, ⟨au, _⟩, af⟩ | ⟨_, _, ay, dA, au, af⟩ | ⟨_, _, d, f, i, g, dA, au, aq, af⟩ | ⟨_, _, al⟩ | ⟨_, _, al⟩
    · have dO := he.ok ok hd
      cases he with
      | kS b e he _ => exact Oper.wp_mono (fun a' w' ⟨a7, ap⟩ => fg _ _ a' w' dO ⟨A, a7, aw.next ap⟩ af) (k9.sound (he.step hd) aw.rel ok)
      | read av h al ap =>
        obtain ⟨v, h1, h2⟩ := h.sound aw;exact Oper.vK h1 (fg _ _ _ _ dO ⟨A, ad, aw.put hd h2⟩ af)
    · obtain ⟨v', w2, dU, h1, h2, ao⟩ := au.sound aw (hd d dA)
      refine Oper.vK h1 ?_;rw [dA];exact fg _ _ _ _ (IB ok d v') ⟨dU, ad, ao⟩ (af v' h2)
    · obtain ⟨w2, dU, h1, h2⟩ := au.sound aw
      unfold Oper.wp;rw [h1, Oper.upon_skip, dA];exact fg _ _ _ _ ok ⟨dU, ad, h2⟩ af
    · have fU := hd d dA
      obtain ⟨v', w2, dU, h1, h2, ao⟩ := au.sound aw fU;refine Oper.vK h1 ?_;rw [dA];obtain ⟨kK, aD⟩ := ao.uI i d (g v') (aq v').1 (aq v').2.2 (by rw [(aq v').2.1]; exact cl _ _ _) fU;rw [zV] at aD;exact fg _ _ _ _ (ok.put fun j ae => absurd ae (ly _ j)) ⟨kK, ad, aD⟩ (af v' h2)
    · exact al.sound hd aw ok fg
    · refine al.sound hd aw ok fun ay s' a' w' dO ct af => ?_
      obtain ⟨i, d, r, _, h1, aN, h2, ao, aD⟩ := af;obtain ⟨kK, AE, wG⟩ := ct;obtain ⟨uh, Gs⟩ := wG.uI i d r h1 aN h2 ao;exact fg _ _ _ _ (dO.put fun j ae => absurd ae (ly _ j)) ⟨uh, AE, Gs⟩ aD
  | false =>
    rw [nl];simp only [nz, if_false];rcases h with ⟨e, he, af⟩ | ⟨h, _⟩ | ⟨h, _⟩ | ⟨h, _⟩ | ⟨h, _⟩ | ⟨h, _⟩
    · have dO := he.ok ok hd
      cases he with
      | kS b e he _ =>
        cases he;exact ⟨fun _ _ => trivial, fg _ _ _ _ dO ⟨A, ad, aw.put hd (cX.undef _)⟩ af⟩
    · cases h
    · cases h
    · cases h
    · cases h
    · cases h
theorem eW.Bv {n : Nat} {look gz : Operand → Option ah} {mem : Nat → Option (List AC)} {b : Bool} {e : ca} (h : eW P n look mem o b e) (el : ∀ x ∈ o.op.operands, gz x = look x) : eW P n gz mem o b e := by
  cases h with
  | skip => exact .skip
  | quiet av an => exact .quiet av (an.congr el)
  | fresh av an => exact .fresh av (an.congr el)
  | load ty x k off cs av aA aa hm hv => exact .load ty x k off cs av aA (by rw [el x (by simp [aA, Op.operands])]; exact aa) hm hv
  | store ty x y k off cs z i aA aa ai hm hi hs ab => exact .store ty x y k off cs z i aA (by rw [el x (by simp [aA, Op.operands])]; exact aa) (by rw [el y (by simp [aA, Op.operands])]; exact ai) hm hi hs ab
  | new cs d dA hm ax => exact .new cs d dA hm (ax.congr el)
  | call g args r al hp => exact .call g args r (al.congr el) hp
theorem kO.ext {look : Operand → Option ah} {f : Value → aI} {hq : Value → Prop} (h : kO P R look o f hq) (ax : v7 o = false) (v : Value) : bz R (f v) := by
  cases h with
  | uF i r tt bytes m jy j1 news hi aA => simp [v7, aA] at ax
  | copy i r tt t2 m lo hi x y news c4 bF aA => simp [v7, aA] at ax
  | new i t n e sz bytes parts vs zs r hi =>
    intro j q ae;have : j ≠ i := fun e => by subst e; rw [hi] at ae; cases ae
    show bG R i _ j = some q;rw [b9 _ _ this]; exact ae
  | make i t l c e sz bytes x y oN pW vs hi =>
    intro j q ae;have : j ≠ i := fun e => by subst e; rw [hi] at ae; cases ae
    show bG R i _ j = some q;rw [b9 _ _ this]; exact ae
theorem eW.PG {n : Nat} {look : Operand → Option ah} {mem : Nat → Option (List AC)} {b : Bool} {e : ca} (h : eW P n look mem o b e) (hm : k4 o = false) : e.m = none := by
  cases h with
  | skip => rfl
  | quiet av an => rfl
  | fresh av an => rfl
  | load ty x k off cs av aA aa fq hv => rfl
  | store ty x y k off cs z i aA aa ai fq hi hs ab => simp [k4, aA] at hm
  | new cs d dA fq ax =>
    cases ax with
    | alloc ty i z cs aA => simp [k4, aA] at hm
    | box ty x z aA => simp [k4, aA] at hm
  | call g args r al hp => rfl
theorem eW.PH {n : Nat} {look : Operand → Option ah} {mem O5 : Nat → Option (List AC)} {b : Bool} {e : ca} (h : eW P n look mem o b e) (hm : k4 o = false) (YW : ∀ ty x k off cs, o.op = .load ty x → look x = some (.w (.one (.own k off))) → mem k = some cs → O5 k = some cs) : eW P n look O5 o b e := by
  cases h with
  | skip => exact .skip
  | quiet av an => exact .quiet av an
  | fresh av an => exact .fresh av an
  | load ty x k off cs av aA aa fq hv => exact .load ty x k off cs av aA aa (YW ty x k off cs aA aa fq) hv
  | store ty x y k off cs z i aA aa ai fq hi hs ab => simp [k4, aA] at hm
  | new cs d dA fq ax =>
    cases ax with
    | alloc ty i z cs aA => simp [k4, aA] at hm
    | box ty x z aA => simp [k4, aA] at hm
  | call g args r al hp => exact .call g args r al hp
theorem zA {look gz : Operand → Option ah} (h : qV dr look o = true) (e : ∀ x ∈ o.op.operands, gz x = look x) : qV dr gz o = true := by
  unfold qV at h ⊢;cases dr with
  | none => rfl
  | some hs =>
    simp only at h ⊢;cases he : hs.isEmpty with
    | true => rfl
    | false =>
      rw [he] at h;simp only [cond_false] at h ⊢;cases aA : o.op with
      | load ty x =>
        rw [aA] at h;simp only at h ⊢;rw [e x (by simp [aA, Op.operands])]; exact h
      | _ => rfl
theorem ON {hs : List Nat} {look : Operand → Option ah} {ty : TypeId} {x : Operand} {k off : Nat} (h : qV (some hs) look o = true) (aA : o.op = .load ty x) (aa : look x = some (.w (.one (.own k off)))) : pb (some hs) k = false := by
  unfold qV at h;simp only at h;cases he : hs.isEmpty with
  | true =>
    have : hs = [] := List.isEmpty_iff.1 he;subst this; rfl
  | false =>
    rw [he] at h;simp only [cond_false, aA, aa, oc] at h;exact h
theorem sL.congr {look gz : Operand → Option ah} {ay : aI} (h : sL P R look o ay) (e : ∀ x ∈ o.op.operands, gz x = look x) : sL P R gz o ay := by
  cases h with
  | store i r off ty x y z eE hi ax aA aa ai aB hs ab al => exact .store i r off ty x y z eE hi ax aA (by rw [e x (by simp [aA, Op.operands])]; exact aa) (by rw [e y (by simp [aA, Op.operands])]; exact ai) aB hs ab al
theorem XR {b : Bool} {e : ca} {K : aI → aC → Prop} (ok : s.cN) (hw : want ops bm s = some b) (he : rv P ops (some hs) R s bm b e) (tk : ∀ d, bm.dst = some d → d < s.n) (rO : bm.apart ops bu = true) (ms : xX s bm bu) (wW : zZ ops hs bm.dst = true → v7 bu = false ∧ dY (some hs) bu = false) (yZ : k4 bm = true → dY (some hs) bu = false) (h : uS P ops (some hs) bu K R (e.on bm.dst s)) :
    uS P ops (some hs) bu (fun ay t => (∃ (f : ca) (dC : Mem), t = f.on bu.dst { s with mem := dC }) ∧ (want ops bm t = some b ∧ rv P ops (some hs) ay t bm b e ∧ (∀ d, bm.dst = some d → d < t.n) ∧ t.cN) ∧ K ay (e.on bm.dst t)) R s := by
  obtain ⟨a1, a2, a3⟩ := Oper.apart_spec rO;obtain ⟨c, r3, qJ, aR⟩ := h;rw [xI (b := none) a1] at r3;have uV : ∀ d, bu.dst = some d → d < s.n := fun d hd => by have := qJ d hd; rwa [ca.tL] at this
  have mz : ∀ x ∈ bu.op.operands, (e.on bm.dst s).look x = s.look x := fun x aa => ca.q4 _ _ _ fun d hd => tB (a1 d hd) aa;have k3 : ∀ (f : ca), ∀ x ∈ bm.op.operands, (f.on bu.dst s).look x = s.look x := fun f x aa => ca.q4 _ _ _ fun d hd => tB (a3 d hd) aa;have wi : ∀ f : ca, want ops bm (f.on bu.dst s) = some b := fun f => by rw [xI (b := none) a3]; exact hw
  have lX : ∀ f : ca, ∀ d, bm.dst = some d → d < (f.on bu.dst s).n := fun f d hd => by rw [ca.tL]; exact tk d hd
  have Bs : ∀ f : ca, f.m = none → f.on bu.dst (e.on bm.dst s) = e.on bm.dst (f.on bu.dst s) := fun f au => ca.zL e f bm.dst bu.dst s a2 fun k cs j ds _ h2 => by rw [au] at h2; cases h2
 
  have R4 : ∀ (ay : aI) (f : ca), f.m = none → (zZ ops hs bm.dst = true → bz R ay) → rv P ops (some hs) ay (f.on bu.dst s) bm b e := fun ay f au ak => by
    cases he with
    | kS b e he aB =>
      refine .kS _ _ ?_ (zA aB (k3 f));rw [ca.tL, ca.q5, au];exact he.Bv (k3 f)
    | read av h al ap => exact .read av ((h.rows (ak ap)).congr (k3 f)) al ap
  refine ⟨c, r3, uV, ?_⟩;rcases aR with ⟨f, au, af⟩ | ⟨ab, d, f, hq, dA, au, af⟩ | ⟨ab, oF, Yq⟩ | ⟨_, oF, _⟩ | ⟨ab, hm, al⟩ | ⟨ab, hm, al⟩
  · left
    cases au with
    | kS c f au Zw =>
      have NU := zA Zw fun x aa => (mz x aa).symm;cases id he with
      | kS b e Yx e3 =>
        obtain ⟨h1, h2, ao⟩ := eW.swap ok Yx au rO ms;exact ⟨f, .kS _ _ h1 NU, ⟨f, s.mem, rfl⟩, ⟨wi f, .kS _ _ h2 (zA e3 (k3 f)), lX f, yv ok h1 uV⟩, by rw [← ao]; exact af⟩
      | read av h al ap =>
        have h1 : eW P s.n s.look s.mem bu c f := by
          have : eW P s.n ((⟨av, none⟩ : ca).on bm.dst s).look s.mem bu c f := by
            have := au;rw [ca.tL, ca.q5] at this;exact this
          exact this.Bv fun x aa => (mz x aa).symm
        refine ⟨f, .kS _ _ h1 NU, ⟨f, s.mem, rfl⟩, ⟨wi f, .read av (h.congr (k3 f)) al ap, lX f, yv ok h1 uV⟩, ?_⟩;have : f.on bu.dst ((⟨av, none⟩ : ca).on bm.dst s) = (⟨av, none⟩ : ca).on bm.dst (f.on bu.dst s) := ca.zL _ f bm.dst bu.dst s a2 fun k cs j ds h1 _ => by cases h1
        rw [← this]; exact af
    | read av ap al Zl =>
      have h1 : kN P R s.look bu av := ap.congr fun x aa => (mz x aa).symm;refine ⟨⟨av, none⟩, .read av h1 al Zl, ⟨⟨av, none⟩, s.mem, rfl⟩, ⟨wi _, R4 R _ rfl (fun _ => .refl R), lX _, ok.put fun j ae => absurd ae (al j)⟩, ?_⟩;rw [← Bs _ rfl]; exact af
  · right; left
    have h1 : kO P R s.look bu f hq := au.1.congr fun x aa => (mz x aa).symm;refine ⟨ab, d, f, hq, dA, ⟨h1, au.2⟩, fun v' hv => ?_⟩;have aF : s.put (some d) (aQ v') = (⟨aQ v', none⟩ : ca).on bu.dst s := by rw [dA]; rfl
    have aP : (e.on bm.dst s).put (some d) (aQ v') = (⟨aQ v', none⟩ : ca).on bu.dst (e.on bm.dst s) := by rw [dA]; rfl
    have h2 := af v' hv;have P1 := IB ok d v';rw [aP, Bs _ rfl] at h2;rw [aF] at P1 ⊢;exact ⟨⟨_, s.mem, rfl⟩, ⟨wi _, R4 (f v') _ rfl (fun aR => h1.ext (wW aR).1 v'), lX _, P1⟩, h2⟩
  · obtain ⟨ay, dA, au, af⟩ := Yq
    have hm : dY (some hs) bu = true := oF
    have wU : k4 bm = false := by
      cases aa : k4 bm with
      | false => rfl
      | true => rw [yZ aa] at hm; cases hm
    have lm : eW P s.n s.look s.mem bm b e ∧ qV (some hs) s.look bm = true := by
      cases he with
      | kS b e he aB => exact ⟨he, aB⟩
      | read av h al ap => rw [(wW ap).2] at hm; cases hm
    have h1 : sL P R s.look bu ay := au.congr fun x aa => (mz x aa).symm;exact .inr (.inr (.inl ⟨ab, oF, ay, dA, h1, ⟨⟨ag5, none⟩, s.mem, by rw [dA]; rfl⟩, ⟨hw, .kS _ _ lm.1 lm.2, tk, ok⟩, af⟩))
  · cases oF
  · right; right; right; right; left
    refine ⟨ab, hm, ?_⟩
    have wU : k4 bm = false := by
      cases aa : k4 bm with
      | false => rfl
      | true => rw [yZ aa] at hm; cases hm
    have lm : eW P s.n s.look s.mem bm b e ∧ qV (some hs) s.look bm = true := by
      cases he with
      | kS b e he aB => exact ⟨he, aB⟩
      | read av h al ap => rw [(wW ap).2] at hm; cases hm
    have pM : e.m = none := lm.1.PG wU;obtain ⟨f, args, m0, R0, Post, GD, hp, aA, qN, ap, fF, af⟩ := al.ex;refine ⟨f, args, m0, R0, Post, GD.congr (fun x aa => (mz x aa).symm), hp, aA, fun k cs az => ?_, ap, fF, fun r aG ay h1 h2 ao aD => ?_⟩
    · obtain ⟨this, aB⟩ := qN k cs az
      rw [ca.q5, pM] at this;exact ⟨this, aB⟩
    · obtain ⟨f1, fg⟩ := af r aG ay h1 h2 ao aD
      have yy : (s.over aG).put bu.dst r = (⟨r, none⟩ : ca).on bu.dst { s with mem := bP aG s.mem } := rfl
      have es : ((e.on bm.dst s).over aG).put bu.dst r = e.on bm.dst ((s.over aG).put bu.dst r) := by
        have cq : e.on bm.dst s = s.put bm.dst e.v := by unfold ca.on; rw [pM]
        have aF : e.on bm.dst ((s.over aG).put bu.dst r) = ((s.over aG).put bu.dst r).put bm.dst e.v := by unfold ca.on; rw [pM]
        have aP : (s.put bm.dst e.v).over aG = (s.over aG).put bm.dst e.v := by cases bm.dst <;> rfl
        rw [cq, aF, aP];exact aC.put_comm (s.over aG) e.v r a2
      have yA : ∀ k ar, aG k = some ar → (∃ cs, m0 k = some cs) ∨ (s.mem k = none ∧ k < s.n) := fun k ar az => by
        have := f1 k ar az;rw [ca.q5, pM, ca.tL] at this;exact this
      have GX : eW P s.n s.look (bP aG s.mem) bm b e := lm.1.PH wU fun ty x k off cs aA aa af => by
        have aB := ON lm.2 aA aa;cases u0 : aG k with
        | none => rw [hI u0]; exact af
        | some c =>
          rcases yA k c u0 with ⟨gQ, az⟩ | ⟨az, _⟩
          · obtain ⟨pT, Hk | r1⟩ := qN k gQ az
            · rw [Hk] at aB; cases aB
            · rw [hH (r1 r aG ay h1)]
              rw [ca.q5, pM] at pT;exact pT.symm.trans af
          · rw [az] at af; cases af
      refine ⟨fun k ar az => ?_, ⟨⟨_, _, yy⟩, ⟨?_, ?_, fun d hd => ?_, ok.Ig ao h2 _⟩, by rw [← es]; exact fg⟩⟩
      · exact yA k ar az
      · rw [yy, xI (b := none) a3]; exact hw
      · refine .kS _ _ ?_ (zA lm.2 fun x aa => by rw [yy]; exact (ca.q4 _ _ _ fun d hd => tB (a3 d hd) aa).trans (by cases x <;> rfl))
        have ak : ∀ x ∈ bm.op.operands, ((s.over aG).put bu.dst r).look x = s.look x := fun x aa => by
          rw [yy];exact (ca.q4 _ _ _ fun d hd => tB (a3 d hd) aa).trans (by cases x <;> rfl)
        have ax : ((s.over aG).put bu.dst r).n = s.n := by rw [aC.sd]; rfl
        rw [ax, aC.xc];exact GX.Bv ak
      · rw [aC.sd]; exact tk d hd
  · right; right; right; right; right
    refine ⟨ab, hm, ?_⟩
    have wU : k4 bm = false := by
      cases aa : k4 bm with
      | false => rfl
      | true => rw [yZ aa] at hm; cases hm
    have lm : eW P s.n s.look s.mem bm b e ∧ qV (some hs) s.look bm = true := by
      cases he with
      | kS b e he aB => exact ⟨he, aB⟩
      | read av h al ap => rw [(wW ap).2] at hm; cases hm
    have pM : e.m = none := lm.1.PG wU;obtain ⟨f, args, m0, R0, Post, GD, hp, aA, qN, ap, fF, af⟩ := al.ex;refine ⟨f, args, m0, R0, Post, GD.congr (fun x aa => (mz x aa).symm), hp, aA, fun k cs az => ?_, ap, fF, fun r aG ay h1 h2 ao aD => ?_⟩
    · obtain ⟨this, aB⟩ := qN k cs az
      rw [ca.q5, pM] at this;exact ⟨this, aB⟩
    · obtain ⟨f1, fg⟩ := af r aG ay h1 h2 ao aD
      have yy : (s.over aG).put bu.dst r = (⟨r, none⟩ : ca).on bu.dst { s with mem := bP aG s.mem } := rfl;obtain ⟨i, d, q, dA, ts, y7, G9, aiS, fg⟩ := fg
      have Zi : ((s.over aG).put bu.dst r).tmps d = some (aQ q.v) := by
        rw [dA] at G9 ⊢;simp only [aC.put, cl] at G9 ⊢;exact G9
      have G0 : ((s.over aG).put bu.dst r).n = s.n := by rw [aC.sd]; rfl
      have BI : ((s.over aG).put bu.dst r).put (some d) (cM q.sz q.n q.aT) = (⟨cM q.sz q.n q.aT, none⟩ : ca).on bu.dst { s with mem := bP aG s.mem } := by rw [dA, zV]; rfl
      have FP : (((e.on bm.dst s).over aG).put bu.dst r).put (some d) (cM q.sz q.n q.aT) = e.on bm.dst (((s.over aG).put bu.dst r).put (some d) (cM q.sz q.n q.aT)) := by
        have cq : e.on bm.dst s = s.put bm.dst e.v := by unfold ca.on; rw [pM]
        have aF : ∀ u : aC, e.on bm.dst u = u.put bm.dst e.v := fun u => by unfold ca.on; rw [pM]
        have aP : (s.put bm.dst e.v).over aG = (s.over aG).put bm.dst e.v := by cases bm.dst <;> rfl
        rw [cq, aF, aP, dA, zV, zV];exact aC.put_comm (s.over aG) e.v _ (by rw [← dA]; exact a2)
      rw [FP] at fg;have B9 : d < s.n := uV d dA
      have yA : ∀ k ar, aG k = some ar → (∃ cs, m0 k = some cs) ∨ (s.mem k = none ∧ k < s.n) := fun k ar az => by
        have := f1 k ar az;rw [ca.q5, pM, ca.tL] at this;exact this
      have GX : eW P s.n s.look (bP aG s.mem) bm b e := lm.1.PH wU fun ty x k off cs aA aa af => by
        have aB := ON lm.2 aA aa;cases u0 : aG k with
        | none => rw [hI u0]; exact af
        | some c =>
          rcases yA k c u0 with ⟨gQ, az⟩ | ⟨az, _⟩
          · obtain ⟨pT, Hk | r1⟩ := qN k gQ az
            · rw [Hk] at aB; cases aB
            · rw [hH (r1 r aG ay h1)]
              rw [ca.q5, pM] at pT;exact pT.symm.trans af
          · rw [az] at af; cases af
      refine ⟨fun k ar az => ?_, i, d, q, dA, ts, y7, Zi, by rw [G0]; exact B9, ⟨⟨_, _, BI⟩, ⟨?_, ?_, fun d hd => ?_, (ok.Ig ao h2 _).put fun j ae => absurd ae (ly _ j)⟩, fg⟩⟩
      · exact yA k ar az
      · rw [BI, xI (b := none) a3]; exact hw
      · refine .kS _ _ ?_ (zA lm.2 fun x aa => by rw [BI]; exact (ca.q4 _ _ _ fun d hd => tB (a3 d hd) aa).trans (by cases x <;> rfl))
        have ak : ∀ x ∈ bm.op.operands, (((s.over aG).put bu.dst r).put (some d) (cM q.sz q.n q.aT)).look x = s.look x := fun x aa => by
          rw [BI];exact (ca.q4 _ _ _ fun d hd => tB (a3 d hd) aa).trans (by cases x <;> rfl)
        have ax : (((s.over aG).put bu.dst r).put (some d) (cM q.sz q.n q.aT)).n = s.n := by rw [aC.sd, aC.sd]; rfl
        rw [ax, aC.xc, aC.xc];exact GX.Bv ak
      · rw [aC.sd, aC.sd]; exact tk d hd
theorem XI {K : aI → aC → Prop} {i : Nat} {b : Bool} {e : ca} (hi : ops[i]? = some bm) : ∀ (fa : Nat) (br : Array Bool) (R : aI) (s : aC),
      (∀ j bu, ops[j]? = some bu → j ≠ i → br.getD j true = false → (∀ e ∈ bu.after, Region.binds .any e = true → e.on ≠ i) → waits .any ops 4 j i = false → waits .any ops 8 j i = false → bm.apart ops bu = true ∧ pu ops br bm bu s ∧ (k4 bm = true → dY (some hs) bu = false)) →
      Down .any ops br → i ∈ Region.ready .any ops br → s.cN → want ops bm s = some b → rv P ops (some hs) R s bm b e → (∀ d, bm.dst = some d → d < s.n) →
      wE P .any ops hs K fa (br.setIfInBounds i true) R (e.on bm.dst s) → wE P .any ops hs K (fa + 1) br R s := by
  intro fa
  induction fa with
  | zero =>
    intro br R s _ fU ap ok hw he hd H;refine ⟨fun h => (by rw [h] at ap; cases ap), fun j ae bu h9 => ?_⟩
    by_cases gy : j = i
    · subst gy; rw [hi] at h9; cases h9; exact ⟨b, hw, hd, .inl ⟨e, he, H⟩⟩
    · have := ready_mono ae gy
      rw [H.1] at this;cases this
  | succ fa bI =>
    intro br R s jG fU ap ok hw he hd H;refine ⟨fun h => (by rw [h] at ap; cases ap), fun j ae bu h9 => ?_⟩
    by_cases gy : j = i
    · subst gy; rw [hi] at h9; cases h9; exact ⟨b, hw, hd, .inl ⟨e, he, H⟩⟩
    · have h1 := H.2 j (ready_mono ae gy) bu h9
      obtain ⟨uX, acx, y4, dz⟩ := mem_ready.1 ae;rw [h9] at y4;cases y4
      have rW : ∀ e ∈ bu.after, Region.binds .any e = true → e.on ≠ i := fun e he ab rR => by
        have h1 := dz e he ab;have az := (mem_ready.1 ap).1;rw [rR] at h1;rcases hZ i br.size with aK | aK
        · simp [aK] at az h1; rw [az] at h1; cases h1
        · simp [xq aK] at h1
      have r4 : ∀ f, waits .any ops f j i = false := fun f => by
        cases r3 : waits .any ops f j i with
        | false => rfl
        | true =>
          have h1 := Jt fU f j i bu h9 dz r3;have az := (mem_ready.1 ap).1;rcases hZ i br.size with aK | aK
          · simp [aK] at az h1; rw [az] at h1; cases h1
          · simp [xq aK] at h1
      have wW : zZ ops hs bm.dst = true → v7 bu = false ∧ dY (some hs) bu = false := fun h => by
        unfold zZ at h;simp only [b6, List.mem_range] at h;have h1 := h i (jU.1 hi).1;simp only [hi, beq_self_eq_true, Bool.not_true, Bool.false_or, b6, List.mem_range] at h1;have h2 := h1 j (jU.1 h9).1;simp only [h9, r4 8, Bool.or_false, oc, Bool.or_eq_false_iff] at h2;exact h2
      obtain ⟨g1, g2, g3⟩ := jG j bu h9 gy uX rW (r4 4) (r4 8);have h2 := XR ok hw he hd g1 g2.sep wW g3 h1;refine MZ ok (fun ay t ajt ao => ?_) h2;obtain ⟨⟨f, dC, rfl⟩, ao⟩ := ao
      have GH : ∀ k ok, ops[k]? = some ok → k ≠ i → (br.setIfInBounds j true).getD k true = false →
          (∀ e ∈ ok.after, Region.binds .any e = true → e.on ≠ i) → waits .any ops 4 k i = false → waits .any ops 8 k i = false → bm.apart ops ok = true ∧ pu ops (br.setIfInBounds j true) bm ok (f.on bu.dst { s with mem := dC }) ∧ (k4 bm = true → dY (some hs) ok = false) := fun k ok af hA k2 h8 Hp ZD => by
        have tw : br.getD k true = false := by
          by_cases kz : j = k
          · subst kz; exact uX
          · rwa [getD_set_ne true kz] at k2
        obtain ⟨q1, q2, bR⟩ := jG k ok af hA tw h8 Hp ZD;exact ⟨q1, (show pu ops br bm ok { s with mem := dC } from q2).on h9 uX, bR⟩
      refine bI (br.setIfInBounds j true) ay _ GH (fU.set ae) (ready_mono ap (Ne.symm gy)) ao.1.2.2.2 ao.1.1 ao.1.2.1 ao.1.2.2.1 ?_;rw [Array.setIfInBounds_comm _ _ gy];exact ao.2
theorem MQ {ro : Option Nat} {K : aI → aC → Prop} {Q : Exit → Act → World → Prop} (kX : ∀ ay s' a' w', s'.cN → pq bw bK ay s' a' w' → K ay s' → Q .normal a' w') : ∀ (fa : Nat) (br : Array Bool) (R : aI) (s : aC) (a : Act) (w : World), s.cN → pq bw bK R s a w →
    wE P md ops hs K fa br R s → wpAnyIn (mm ro) 0 P md ops Q fa br a w
  | 0, _, _, _, _, _, ok, aw, h => ⟨h.1, kX _ _ _ _ ok aw h.2⟩
  | fa + 1, br, R, s, a, w, ok, aw, h => ⟨fun az => kX _ _ _ _ ok aw (h.1 az), fun i hi => by
      obtain ⟨az, o, aA, _⟩ := mem_ready.1 hi;exact M0 aA ok aw (h.2 i hi o aA) fun ay s' a' w' dO ct af => MQ kX fa _ ay s' a' w' dO ct af⟩
theorem yH {K : aI → aC → Prop} (tp : ∀ o, dY dr o = false) : ∀ (l : List Oper) (R : aI) (s : aC), cJ P ops dr K l R s → ∃ ay s', K ay s' ∧ ∀ t, (∀ o ∈ l, o.dst ≠ some t) → s'.tmps t = s.tmps t
  | [], R, s, h => ⟨R, s, h, fun _ _ => rfl⟩
  | o :: l, R, s, ⟨b, hw, hd, h⟩ => by
    rcases h with ⟨e, he, fg⟩ | ⟨_, d, f, hq, dA, au, fg⟩ | ⟨_, _, bh, dA, au, fg⟩ | ⟨_, _, d, f, i, g, dA, au, aq, fg⟩ | ⟨_, hm, _⟩ | ⟨_, hm, _⟩
    · obtain ⟨ay, s', h1, h2⟩ := yH tp l _ _ fg
      exact ⟨ay, s', h1, fun t aB => (h2 t fun eV hj => aB eV (by simp [hj])).trans (ca.xi (aB o (by simp)))⟩
    · obtain ⟨v1, iW⟩ := au.1.out
      obtain ⟨ay, s', h1, h2⟩ := yH tp l _ _ (fg v1 iW);refine ⟨ay, s', h1, fun t aB => (h2 t fun eV hj => aB eV (by simp [hj])).trans ?_⟩;have := aB o (by simp);rw [dA] at this;exact ca.xi (e := ⟨aQ v1, none⟩) this
    · obtain ⟨ay, s', h1, h2⟩ := yH tp l _ _ fg
      exact ⟨ay, s', h1, fun t aB => h2 t fun eV hj => aB eV (by simp [hj])⟩
    · obtain ⟨ay, s', h1, h2⟩ := yH tp l _ _ (fg (.bool false) rfl)
      refine ⟨ay, s', h1, fun t aB => (h2 t fun eV hj => aB eV (by simp [hj])).trans ?_⟩;have := aB o (by simp);rw [dA] at this;exact ca.xi (e := ⟨cM (g (.bool false)).sz (g (.bool false)).n (g (.bool false)).aT, none⟩) this
    · rw [tp o] at hm; cases hm
    · rw [tp o] at hm; cases hm
def NF (ops : Array Oper) (hs : List Nat) (br : Array Bool) (i : Nat) : Bool := (List.range ops.size).all fun j => Nat.beq j i || br.getD j true || match ops[j]? with
  | some bu => !dY (some hs) bu || waits .any ops 8 j i
  | none => true
def zC (ops : Array Oper) (hX : List (Nat × Nat)) (hs : List Nat) : List Nat → Array Bool → Bool
  | [], br => (Region.ready .any ops br).isEmpty
  | k :: ord, br => (bif (match ops[k]? with | some o => (u3 o && !rG (some hs) o) || dY (some hs) o | none => true) then Region.ready .any ops br == [k] else (Region.ready .any ops br).contains k && Region.free .any ops br k && C9 .any ops hX br k && (!(match ops[k]? with | some o => k4 o | none => true) || NF ops hs br k)) && zC ops hX hs ord (br.setIfInBounds k true)
theorem kO.hot {look : Operand → Option ah} {f : Value → aI} {hq : Value → Prop} (h : kO P R look o f hq) : u3 o = true := by
  cases h with
  | uF i r tt bytes m jy j1 news hi aA => simp [u3, aA]
  | copy i r tt t2 m lo hi x y news c4 bF aA => simp [u3, aA]
  | new i t n e sz bytes parts vs zs r hi aA => simp [u3, aA]
  | make i t l c e sz bytes x y oN pW vs hi aA => simp [u3, aA]
theorem MP {K : aI → aC → Prop} {hX : List (Nat × Nat)} (Nw : hX = [] ∨ hs = []) : ∀ (ord : List Nat) (l : List Oper) (br : Array Bool) (R : aI) (s : aC), l.length = ord.length → (∀ (j : Nat), l[j]? = (ord[j]?).bind (ops[·]?)) → (∀ k ∈ ord, br.getD k true = false) → (∀ k, k < ops.size → br.getD k true = false → k ∈ ord) → ord.Nodup → Down .any ops br → s.cN →
    zC ops hX hs ord br = true → cJ P ops (some hs) (fun R s => hX.all (me s) = true ∧ K R s) l R s → wE P .any ops hs K l.length br R s
  | [], [], _, _, _, _, _, _, _, _, _, _, eM, h => ⟨by simpa [zC] using eM, h.2⟩
  | [], _ :: _, _, _, _, hlen, _, _, _, _, _, _, _, _ => by cases hlen
  | _ :: _, [], _, _, _, hlen, _, _, _, _, _, _, _, _ => by cases hlen
  | k :: ord, o :: l, br, R, s, hlen, ak, k2, GF, hh, fU, ok, eM, h => by
    have az : ops[k]? = some o := by simpa using (ak 0).symm
    have rQ := fun tp => yH (dr := some hs) tp _ _ _ h;simp only [zC, az, c5] at eM;obtain ⟨af, Gf⟩ := eM;rw [List.nodup_cons] at hh;have bU : ∀ q ∈ ord, k ≠ q := fun q an e => hh.1 (by rw [e]; exact an)
    have bI : ∀ ay s', s'.cN → k ∈ Region.ready .any ops br → cJ P ops (some hs) (fun R s => hX.all (me s) = true ∧ K R s) l ay s' → wE P .any ops hs K l.length (br.setIfInBounds k true) ay s' := fun ay s' dO ap aR => by
      refine MP Nw ord l _ ay s' (by simpa using hlen) (fun j => by simpa using ak (j + 1)) (fun q an => by rw [getD_set_ne true (bU q an)]; exact k2 q (by simp [an])) (fun q an uZ => ?_) hh.2 (fU.set ap) dO Gf aR
      by_cases bo : k = q
      · subst bo
        have : k < br.size := by
          have := k2 k (by simp);rcases hZ k br.size with aK | aK
          · exact aK
          · simp [xq aK] at this
        simp [this] at uZ
      · rw [getD_set_ne true bo] at uZ
        rcases gj.1 (GF q an uZ) with aK | aK
        · exact absurd aK.symm bo
        · exact aK
    cases aR : ((u3 o && !rG (some hs) o) || dY (some hs) o) with
    | true =>
      rw [aR] at af;simp only [cond_true, beq_iff_eq] at af;have ap : k ∈ Region.ready .any ops br := by rw [af]; simp
      refine ⟨fun h1 => (by rw [af] at h1; cases h1), fun i hi bm Nz => ?_⟩;rw [af] at hi;obtain rfl : i = k := by simpa using hi
      rw [az] at Nz;cases Nz;exact MZ ok (fun ay s' dO aR => bI ay s' dO ap aR) h
    | false =>
      rw [aR] at af;simp only [cond_false, c5] at af;obtain ⟨⟨⟨ap, au⟩, hm⟩, y0⟩ := af;rw [Bool.or_eq_false_iff] at aR;have y8 : k ∈ Region.ready .any ops br := by simpa using ap
      obtain ⟨b, hw, hd, h1⟩ := h;rcases h1 with ⟨e, he, fg⟩ | ⟨_, d, f, hq, dA, mZ, _⟩ | ⟨_, oF, _⟩ | ⟨_, oF, _⟩ | ⟨_, fq, _⟩ | ⟨_, fq, _⟩
      · have lS : ∀ p ∈ hX, oT ops br p.1 = true → oT ops br p.2 = true → me s p = true := fun p hp eJ ft => by
          have pT : hs = [] := by
            rcases Nw with az | az
            · rw [az] at hp; cases hp
            · exact az
          obtain ⟨ay, s', ⟨h1, _⟩, h2⟩ := rQ fun o => by rw [pT]; simp [dY]
          have ho : ∀ t, oT ops br t = true → ∀ eV ∈ o :: l, eV.dst ≠ some t := fun t aB eV hj => by
            obtain ⟨j, ae⟩ := jR hj;rw [ak j] at ae;cases an : (k :: ord)[j]? with
            | none => rw [an] at ae; cases ae
            | some q => rw [an] at ae; exact Dn aB q eV ae (k2 _ (cV an))
          have := b6.1 h1 p hp;unfold me at this ⊢;rw [h2 p.1 (ho _ eJ), h2 p.2 (ho _ ft)] at this;exact this
        refine XI az l.length br R s (fun j bu h1 h2 ao aD cm eQ => ⟨Region.free_spec az au j bu h1 h2 ao aD, O8 az hm lS j bu h1 h2 ao cm, fun yZ => ?_⟩) fU y8 ok hw he hd ?_
        · rw [yZ] at y0
          simp only [Bool.not_true, Bool.false_or] at y0;unfold NF at y0;simp only [b6, List.mem_range] at y0;have q := y0 j (jU.1 h1).1;simp only [h1, ao, eQ, Bool.or_false, so, oc] at q;rcases q with q | q
          · exact absurd (hr q) h2
          · exact q
        exact bI _ _ (he.ok ok hd) y8 fg
      · rw [mZ.1.hot, mZ.2] at aR; cases aR.1
      · have fq : dY (some hs) o = true := oF
        rw [aR.2] at fq; cases fq
      · cases oF
      · rw [aR.2] at fq; cases fq
      · rw [aR.2] at fq; cases fq
def fl (P : Program) (c : Code) (Q : Exit → aI → aC → Prop) (R : aI) (s : aC) : Prop :=
  s.cN → ∀ bw bK a w, pq bw bK R s a w → kl P c (fun x a' w' => ∃ ay s', s'.cN ∧ pq bw bK ay s' a' w' ∧ Q x ay s') a w
def IG (l : List Oper) (ord hs : List Nat) : Bool := ((vk l.toArray ord).isEmpty || hs.isEmpty) && Nat.beq ord.length l.length && zG ord && (List.range l.length).all (fun i => ord.contains i) && ord.all (fun i => Nat.blt i l.length) && zC l.toArray (vk l.toArray ord) hs ord (Array.replicate l.length false)
variable {Q : Exit → aI → aC → Prop} {x y c : Code}
theorem k7 (ord hs : List Nat) {id : Nat} {l cE : List Oper} (eM : IG l ord hs = true) (hm : P.follows .mixedOrders = true) (ak : getAll l ord = some cE)
    (h : cJ P l.toArray (some hs) (fun R s => (vk l.toArray ord).all (me s) = true ∧ Q .normal R s) cE R s) : fl P (.region id l.toArray true) Q R s := by
  intro ok bw bK a w aw;refine SC hm fun ro => ?_;unfold IG at eM;simp only [c5, b6, List.mem_range, List.contains_eq_mem, b4] at eM;obtain ⟨⟨⟨⟨⟨uG, fA⟩, b1⟩, b2⟩, dm⟩, cY⟩ := eM;obtain ⟨g1, g2⟩ := F4 _ _ ak;obtain ⟨A, ad, aw⟩ := aw;have hd : ev bw bK R s a { w with drawn := w.drawn + 1 } A ad := aw.next (aw.rel.call ((Below.refl _ w).drew))
  refine MQ (K := Q .normal) (hs := hs) (fun ay s' a' w' dO ct af => ⟨ay, s', dO, ct, af⟩) _ _ R s a _ ok ⟨A, ad, hd⟩ ?_;have nd := H7 _ b1;have hlen : ord.length = l.length := hr fA;have := MP (ops := l.toArray) (hs := hs) (by simpa [so, List.isEmpty_iff] using uG) ord cE (Array.replicate l.length false) R s g1 (by simpa using g2) (fun q an => by have := dm q an; simp [Nat.blt_eq] at this; simp [this]) (fun q an _ => b2 q (by simpa using an)) nd (fun k o af => by exfalso; rcases hZ k l.length with q | q <;> simp [Array.getElem?_replicate, q] at af) ok cY h;rw [g1, hlen] at this;simpa using this
theorem cQ (ord : List Nat) {id : Nat} {l cE : List Oper} (eM : IG l ord [] = true) (hm : P.follows .mixedOrders = true) (ak : getAll l ord = some cE)
    (h : cJ P l.toArray (some []) (fun R s => (vk l.toArray ord).all (me s) = true ∧ Q .normal R s) cE R s) : fl P (.region id l.toArray true) Q R s := k7 ord [] eM hm ak h
theorem MX {ro : Option Nat} {K : aI → aC → Prop} {Q : Exit → Act → World → Prop} (kX : ∀ ay s' a' w', s'.cN → pq bw bK ay s' a' w' → K ay s' → Q .normal a' w') : ∀ (l : List Oper) (k : Nat) (R : aI) (s : aC) (a : Act) (w : World), (∀ (j : Nat), l[j]? = ops[k + j]?) → s.cN → pq bw bK R s a w →
    cJ P ops dr K l R s → wpOpsIn (mm ro) 0 P ops Q ((List.range l.length).map (k + ·)) a w
  | [], _, _, _, _, _, _, ok, aw, h => kX _ _ _ _ ok aw h
  | o :: l, k, R, s, a, w, ak, ok, aw, h => by
    have az : ops[k]? = some o := by simpa using (ak 0).symm
    have e : (List.range (o :: l).length).map (k + ·) = k :: (List.range l.length).map (k + 1 + ·) := by
      rw [jQ, List.range_succ_eq_map, kG, List.map_map];congr 1;apply o5;intro j _;simp [Nat.add_assoc, Nat.add_comm 1 j]
    rw [e, wpOpsIn_cons];refine M0 az ok aw h fun ay s' a' w' dO ct af => MX kX l (k + 1) ay s' a' w' (fun j => by have := ak (j + 1); simpa [Nat.add_assoc, Nat.add_comm 1 j] using this) dO ct af
theorem I0 {id : Nat} {l : List Oper} (h : cJ P l.toArray none (Q .normal) l R s) : fl P (.region id l.toArray false) Q R s := by
  intro ok bw bK a w aw;refine SB fun ro => ?_;have := MX (ro := ro) (ops := l.toArray) (K := Q .normal) (Q := fun e a' w' => ∃ ay s', s'.cN ∧ pq bw bK ay s' a' w' ∧ Q e ay s') (fun ay s' a' w' dO ct af => ⟨ay, s', dO, ct, af⟩) l 0 R s a w (by simp) ok aw h;simpa using this
def Ac (next : aI → aC → Prop) (Q : Exit → aI → aC → Prop) : Exit → aI → aC → Prop
  | .normal, R, s => next R s
  | e, R, s => Q e R s
def xr (id : Nat) (Q : Exit → aI → aC → Prop) : Exit → aI → aC → Prop
  | .exit pV, R, s => bif Nat.beq pV id then Q .normal R s else Q (.exit pV) R s
  | e, R, s => Q e R s
theorem D6 (h : fl P x (Ac (fun R s => fl P y Q R s) Q) R s) : fl P (.seq x y) Q R s := by
  intro ok bw bK a w cI;refine SE (sE (h ok bw bK a w cI) ?_);rintro x a' w' ⟨ay, s', dO, mq, an⟩;cases x <;> first | exact an dO bw bK a' w' mq | exact ⟨ay, s', dO, mq, an⟩
theorem I2 (h : Q .normal R s) : fl P .skip Q R s := fun ok bw bK a w aw => SF ⟨R, s, ok, aw, h⟩
theorem IZ {id : Nat} (h : Q (.exit id) R s) : fl P (.exit id) Q R s := fun ok bw bK a w aw => Sz ⟨R, s, ok, aw, h⟩
theorem afM (h : Q .ret R s) : fl P .ret Q R s := fun ok bw bK a w aw => SD ⟨R, s, ok, aw, h⟩
theorem afK {id : Nat} (h : fl P x (xr id Q) R s) : fl P (.block id x) Q R s := by
  intro ok bw bK a w cI;refine Sx (sE (h ok bw bK a w cI) ?_);rintro x a' w' ⟨ay, s', dO, mq, an⟩;cases x with
  | exit pV =>
    simp only [Exit.inBlock];simp only [xr] at an;cases ab : Nat.beq pV id with
    | true => rw [ab] at an; rw [if_pos (hr ab)]; exact ⟨ay, s', dO, mq, an⟩
    | false =>
      rw [ab] at an;have : pV ≠ id := fun e => by subst e; rw [Nat.beq_refl] at ab; cases ab
      rw [if_neg this]; exact ⟨ay, s', dO, mq, an⟩
  | _ => exact ⟨ay, s', dO, mq, an⟩
theorem RV {c : Operand} {b : Bool} (al : s.look c = some (bk b)) (h1 : b = true → fl P x Q R s) (az : b = false → fl P y Q R s) : fl P (.cond c x y) Q R s := by
  rintro ok bw bK a w ⟨A, ad, aw⟩;have hv : a.eval c = .bool b := (aw.rel.look al).1;refine Sy hv ?_;cases b with
  | true => exact h1 rfl ok bw bK a w ⟨A, ad, aw⟩
  | false => exact az rfl ok bw bK a w ⟨A, ad, aw⟩
theorem afL {c : Operand} {b : Bool} (al : s.look c = some (bk b)) (ab : b = true) (h1 : fl P x Q R s) : fl P (.cond c x y) Q R s := RV al (fun _ => h1) fun e => by rw [ab] at e; cases e
theorem IX {c : Operand} {b : Bool} (al : s.look c = some (bk b)) (ab : b = false) (az : fl P y Q R s) : fl P (.cond c x y) Q R s := RV al (fun e => by rw [ab] at e; cases e) fun _ => az
theorem jW (N : Nat) (I : Nat → aI → List (Nat × ah) → List (Nat × List AC) → Prop) (k : Nat) (R0 : aI) (aM : List (Nat × ah)) (bi : List (Nat × List AC)) (bj : I k R0 aM bi) (ak : bz R0 R) (ax : N = s.n) (aB : ow s.tmps aM) (hm : ow s.mem bi) (cT : okB aM bi = true)
    (round : ∀ k R aM bi, I k R aM bi → okB aM bi = true → fl P x (Ac (fun ay s' => ∃ k' A1 pc oP, k' < k ∧ I k' A1 pc oP ∧ bz A1 ay ∧ N = s'.n ∧ ow s'.tmps pc ∧ ow s'.mem oP ∧ okB pc oP = true) Q) R (tD N aM bi)) : fl P (.loop x) Q R s := by
  rintro ok bw bK a w ⟨A, ad, aw⟩;refine SA (fun k a w => ∃ R aM bi, I k R aM bi ∧ okB aM bi = true ∧ pq bw bK R (tD N aM bi) a w) (n := k) ⟨R0, aM, bi, bj, cT, A, ad, (aw.le ak).OQ (Da ax aB hm)⟩ ?_;rintro k a w ⟨R, aM, bi, bj, ok, cI⟩;refine sE (round k R aM bi bj ok (HS ok) bw bK a w cI) ?_;rintro x a' w' ⟨ay, s', dO, ⟨dU, a7, mq⟩, an⟩;cases x with
  | normal =>
    obtain ⟨k', A1, pc, oP, h1, h2, ao, aD, cm, eQ, jE⟩ := an;exact ⟨k', h1, A1, pc, oP, h2, jE, dU, a7, (mq.le ao).OQ (Da aD cm eQ)⟩
  | _ => exact ⟨ay, s', dO, ⟨dU, a7, mq⟩, an⟩
theorem pw {Q : Exit → aC → Prop} (h : fl P c (fun x ay s' => Q x s') gh s) : fj P c Q s := by
  intro ok B A ad a w aw;have cI : ev B A gh s a w A ad := ⟨aw.up, fun _ h => h, aw.hot fun b h => aw.up b (il aw.below.size h), fun k cs af => (aw.dC k cs af).choose_spec.choose_spec.2.2, aw.below, fun i r hi => (by cases hi), fun i j r q hi => (by cases hi), fun i r g hi => (by cases hi), aw.j7⟩;refine sE (h ok B A a w ⟨A, ad, cI⟩) ?_;rintro x a' w' ⟨ay, s', dO, ⟨gB, eT, h1⟩, an⟩;exact ⟨s', eT, dO, h1.rel.yj (fun b ab _ => ⟨h1.sub b ab, rfl⟩) (fun k cs af => ⟨rfl, h1.oO k cs af⟩) h1.below aw.up h1.j7, an⟩
theorem mb (i e sz : Nat) (hi : R i = none) (h : fl P c Q (bG R i ⟨e, sz, .slice none 0 0, 0, []⟩) s) (bF : 0 < sz := by decide) : fl P c Q R s := by
  rintro ok bw bK a w ⟨A, ad, aw⟩;have h8 : ∀ g, ¬ (⟨e, sz, .slice none 0 0, 0, []⟩ : bE).own g := fun g aq => by have := bE.oV aq bF; cases this
  refine h ok bw bK a w ⟨A, ad, aw.up, aw.sub, aw.rel, aw.oO, aw.below, fun j r ae => ?_, fun j k r q ae af kz g aq => ?_, fun j r g ae aq => ?_, aw.j7⟩
  · by_cases bo : j = i
    · subst bo
      rw [cl] at ae;cases ae;exact ⟨.inl ⟨bF, [], World.ownsRow_nil w 0 e sz, rfl, fun i x v aa => by simp at aa⟩, fun y ai => (by cases ai), fun g aq => absurd aq (h8 g)⟩
    · rw [b9 _ _ bo] at ae; exact aw.rows j r ae
  · by_cases aF : j = i
    · subst aF; rw [cl] at ae; cases ae; exact absurd aq (h8 g)
    · rw [b9 _ _ aF] at ae
      by_cases aP : k = i
      · subst aP; rw [cl] at af; cases af; exact h8 g
      · rw [b9 _ _ aP] at af; exact aw.apart j k r q ae af kz g aq
  · by_cases aF : j = i
    · subst aF; rw [cl] at ae; cases ae; exact absurd aq (h8 g)
    · rw [b9 _ _ aF] at ae; exact aw.hot j r g ae aq
theorem Af (i d : Nat) (r : bE) (hi : R i = some r) (hd : s.tmps d = some (aQ r.v)) (h : fl P c Q (fun j => if j = i then none else R j) (s.put (some d) (cM r.sz r.n r.aT))) (bF : 0 < r.sz := by first | decide | exact jw _) : fl P c Q R s := by
  rintro ok bw bK a w ⟨A, ad, aw⟩
  have fU : d < s.n := by
    obtain ⟨v, h1, _⟩ := aw.rel.hc d _ hd;rw [← aw.rel.size];exact (jU.1 h1).1
  obtain ⟨dU, B2⟩ := aw.uI i d r hi bF hd fU;exact h (ok.put fun j ae => absurd ae (ly _ j)) bw bK a w ⟨dU, ad, B2⟩
theorem gf {K : aI → aC → Prop} {rest : List Oper} (aB : qV dr s.look o = true) (h : bc P ops (fun s' => cJ P ops dr K rest R s') [o] s) : cJ P ops dr K (o :: rest) R s := by
  obtain ⟨b, hw, e, he, hd, af⟩ := h;exact ⟨b, hw, hd, .inl ⟨e, .kS b e he aB, af⟩⟩
theorem Hf {K : aI → aC → Prop} (h : K R s) : cJ P ops dr K [] R s := h
theorem Hg {K : aI → aC → Prop} {hX : List (Nat × Nat)} (hs : hX.all (me s) = true) (h : K R s) : cJ P ops dr (fun R s => hX.all (me s) = true ∧ K R s) [] R s := ⟨hs, h⟩
variable {d ty : Nat} {pos : String} {after : Array Edge} {guard : Option (Nat × Bool)} {K : aI → aC → Prop} {rest : List Oper}
theorem zd {op : Op} {av : ah} (hw : want ops ⟨some d, op, ty, pos, after, guard⟩ s = some true) (an : kN P R s.look ⟨some d, op, ty, pos, after, guard⟩ av) (al : av.aY = true) (ap : tX ops dr (some d) = true) (hd : Nat.blt d s.n = true) (h : cJ P ops dr K rest R (s.put (some d) av)) : cJ P ops dr K (⟨some d, op, ty, pos, after, guard⟩ :: rest) R s :=
  ⟨true, hw, kU hd, .inl ⟨⟨av, none⟩, .read av an (ah.dq al) ap, h⟩⟩
theorem lr {x : Operand} {t z : Nat} {r : bE} (i : Nat) [S : hP P t z] (hi : R i = some r) (hw : want ops ⟨some d, .call ⟨.builtin .len, #[x], #[t]⟩, ty, pos, after, guard⟩ s = some true) (aa : s.look x = some (aQ r.v)) (bF : Nat.blt 0 r.sz = true) (ap : tX ops dr (some d) = true) (hd : Nat.blt d s.n = true) (h : cJ P ops dr K rest R (s.put (some d) (aE r.n))) : cJ P ops dr K (⟨some d, .call ⟨.builtin .len, #[x], #[t]⟩, ty, pos, after, guard⟩ :: rest) R s :=
  zd hw (.len i r t z x hi (by simpa [Nat.blt_eq] using bF) rfl aa S.h) rfl ap hd h
theorem ib {x y : Operand} {t z : Nat} {r : bE} {gV : IntKind} {j : Int} (i : Nat) [S : hP P t z] (hi : R i = some r) (hw : want ops ⟨some d, .indexAddr t x y, ty, pos, after, guard⟩ s = some true) (aa : s.look x = some (aQ r.v)) (ai : s.look y = some (aQ (.int gV j))) (az : 0 ≤ j) (h1 : j < r.n) (aN : z = r.sz) (ap : tX ops dr (some d) = true) (hd : Nat.blt d s.n = true) (h : cJ P ops dr K rest R (s.put (some d) (aQ (jx r.v (j.toNat * z))))) : cJ P ops dr K (⟨some d, .indexAddr t x y, ty, pos, after, guard⟩ :: rest) R s := by
  subst aN;exact zd hw (.idx i r t x y gV j hi rfl aa ai az h1 S.h) rfl ap hd h
theorem ls {x : Operand} {lt n off : Nat} {r : bE} {zs : List AC} (i : Nat) [T : e6 P lt true n] (hi : R i = some r) (hw : want ops ⟨some d, .load lt x, ty, pos, after, guard⟩ s = some true) (aa : s.look x = some (aQ (jx r.v off))) (ax : 0 < r.n) (aN : off + n ≤ r.aT.length ∧ (r.aT.drop off).take n = zs) (al : (ah.w (.agg zs)).aY = true) (ap : tX ops dr (some d) = true) (hd : Nat.blt d s.n = true) (h : cJ P ops dr K rest R (s.put (some d) (.w (.agg zs)))) : cJ P ops dr K (⟨some d, .load lt x, ty, pos, after, guard⟩ :: rest) R s :=
  zd hw (.load i r off lt x _ hi ax rfl aa (by
    have cB := T.h;unfold kj at cB;unfold pick;rw [← aN.2];cases hu : P.underlying lt with
    | none => rw [hu] at cB; cases cB
    | some D =>
      cases fp : P.info? lt with
      | none => rw [hu, fp] at cB; cases D <;> cases cB
      | some eE =>
        rw [hu, fp] at cB;cases D <;> simp at cB <;> (subst cB; simp [aN.1]))) al ap hd h
theorem n2 {tt bytes m : Nat} {r : bE} {jy j1 : Operand} {news : List AC} (i : Nat) (hi : R i = some r) [T : mV P tt r.e r.sz bytes] (hw : want ops ⟨some d, .call ⟨.builtin .append, #[jy, j1], #[tt, tt]⟩, ty, pos, after, guard⟩ s = some true) (aa : s.look jy = some (aQ r.v)) (ai : s.look j1 = some (cM r.sz m news)) (h1 : r.n + m ≤ maxLen) (h2 : (r.n + m) * bytes ≤ 140737488355328) (al : news.all AC.aY = true) (hd : Nat.blt d s.n = true)
    (h : ∀ v', v'.oneCell' = true → cJ P ops dr K rest (bG R i ⟨r.e, r.sz, v', r.n + m, r.aT ++ news⟩) (s.put (some d) (aQ v'))) (pJ : rG dr ⟨some d, .call ⟨.builtin .append, #[jy, j1], #[tt, tt]⟩, ty, pos, after, guard⟩ = false := by exact rfl) : cJ P ops dr K (⟨some d, .call ⟨.builtin .append, #[jy, j1], #[tt, tt]⟩, ty, pos, after, guard⟩ :: rest) R s :=
  ⟨true, hw, kU hd, .inr (.inl ⟨rfl, d, _, _, rfl, ⟨.uF i r tt bytes m jy j1 news hi rfl T.h aa ai h1 h2 (b6.1 al), pJ⟩, h⟩)⟩
theorem NK {tt bytes m k : Nat} {r : bE} {jy j1 : Operand} {news zs : List AC} (i : Nat) (hi : R i = some r) [T : mV P tt r.e r.sz bytes] (hw : want ops ⟨some d, .call ⟨.builtin .append, #[jy, j1], #[tt, tt]⟩, ty, pos, after, guard⟩ s = some true) (aa : s.look jy = some (aQ r.v)) (ai : s.look j1 = some (cM r.sz m news)) (h1 : r.n + m ≤ maxLen) (h2 : (r.n + m) * bytes ≤ 140737488355328) (af : r.n + m = k) (aN : r.aT ++ news = zs) (al : news.all AC.aY = true) (hd : Nat.blt d s.n = true)
    (h : cJ P ops none K rest (fun j => if j = i then none else R j) (s.put (some d) (cM r.sz k zs))) : cJ P ops none K (⟨some d, .call ⟨.builtin .append, #[jy, j1], #[tt, tt]⟩, ty, pos, after, guard⟩ :: rest) R s := by
  subst af aN;refine ⟨true, hw, kU hd, .inr (.inr (.inr (.inl ⟨rfl, rfl, d, _, i, fun v' => ⟨r.e, r.sz, v', r.n + m, r.aT ++ news⟩, rfl, .uF i r tt bytes m jy j1 news hi rfl T.h aa ai h1 h2 (b6.1 al), fun v' => ⟨cl _ _ _, rfl, (rj T.h).choose_spec.choose_spec.2.2.2.2.2.2⟩, fun v' hv => ?_⟩)))⟩
  have : (fun j => if j = i then none else bG R i ⟨r.e, r.sz, v', r.n + m, r.aT ++ news⟩ j) = fun j => if j = i then none else R j := by
    funext j
    by_cases e : j = i
    · rw [if_pos e, if_pos e]
    · rw [if_neg e, if_neg e, b9 _ _ e]
  rw [this];exact h
theorem NO {t e sz bytes : Nat} {vs : List Value} (i : Nat) (hi : R i = none) [T : mV P t e sz bytes] [Z : nL P t vs] (hw : want ops ⟨some d, .buildSlice t 0 #[], ty, pos, after, guard⟩ s = some true)
    (h1 : (vs.all fun v => v.oneCell') = true) (hs : Nat.beq vs.length sz = true) (hd : Nat.blt d s.n = true)
    (h : ∀ v', v'.oneCell' = true → cJ P ops dr K rest (bG R i ⟨e, sz, v', 0, []⟩) (s.put (some d) (aQ v'))) (pJ : rG dr ⟨some d, .buildSlice t 0 #[], ty, pos, after, guard⟩ = false := by exact rfl) : cJ P ops dr K (⟨some d, .buildSlice t 0 #[], ty, pos, after, guard⟩ :: rest) R s :=
  ⟨true, hw, kU hd, .inr (.inl ⟨rfl, d, _, _, rfl, ⟨.new i t 0 e sz bytes [] vs [] [] hi rfl T.h Z.h rfl (by simp [h4, qw]) h1 (hr hs) (by simp) (dx _) (by simp) (fun y ai => by cases ai), pJ⟩, h⟩)⟩
theorem zb {t l c' e sz bytes : Nat} {x y : Operand} {oN pW : IntKind} {vs : List Value} (i : Nat) (hi : R i = none) [T : mV P t e sz bytes] [Z : nL P t vs] (hw : want ops ⟨some d, .makeSlice t x y, ty, pos, after, guard⟩ s = some true) (aa : s.look x = some (aQ (.int oN l))) (ai : s.look y = some (aQ (.int pW c'))) (ak : l ≤ c')
    (h1 : (vs.all fun v => v.oneCell') = true) (hs : Nat.beq vs.length sz = true) (h2 : bytes * c' ≤ 281474976710656) (ao : c' ≤ maxLen) (hd : Nat.blt d s.n = true)
    (h : ∀ v', v'.oneCell' = true → cJ P ops dr K rest (bG R i ⟨e, sz, v', l, h4 l sz vs⟩) (s.put (some d) (aQ v'))) (pJ : rG dr ⟨some d, .makeSlice t x y, ty, pos, after, guard⟩ = false := by exact rfl) : cJ P ops dr K (⟨some d, .makeSlice t x y, ty, pos, after, guard⟩ :: rest) R s :=
  ⟨true, hw, kU hd, .inr (.inl ⟨rfl, d, _, _, rfl, ⟨.make i t l c' e sz bytes x y oN pW vs hi rfl T.h Z.h aa ai ak h1 (hr hs) h2 ao, pJ⟩, h⟩)⟩
theorem Zp {tt t2 m z k : Nat} {r : bE} {x y : Operand} {news zs : List AC} (i : Nat) [S : hP P tt z] (hi : R i = some r) (hw : want ops ⟨some d, .call ⟨.builtin .copy, #[x, y], #[tt, t2]⟩, ty, pos, after, guard⟩ s = some true) (aa : s.look x = some (aQ r.v)) (ai : s.look y = some (cM z m news)) (aN : z = r.sz) (bF : Nat.blt 0 r.sz = true) (al : news.all AC.aY = true) (hd : Nat.blt d s.n = true) (af : Nat.min m r.n = k) (he : eD r.aT 0 (news.take (k * r.sz)) = zs) (pJ : rG dr ⟨some d, .call ⟨.builtin .copy, #[x, y], #[tt, t2]⟩, ty, pos, after, guard⟩ = false)
    (h : cJ P ops dr K rest (bG R i ⟨r.e, r.sz, r.v, r.n, zs⟩) (s.put (some d) (aE (k : Int)))) : cJ P ops dr K (⟨some d, .call ⟨.builtin .copy, #[x, y], #[tt, t2]⟩, ty, pos, after, guard⟩ :: rest) R s := by
  subst aN af he;refine ⟨true, hw, kU hd, .inr (.inl ⟨rfl, d, _, _, rfl, ⟨.copy i r tt t2 m 0 r.n x y news hi (by simpa [Nat.blt_eq] using bF) rfl S.h (.inl ⟨aa, rfl, rfl⟩) (.inl ai) (dx _) (dE _) (b6.1 al), pJ⟩, fun v' hv => ?_⟩)⟩;subst hv;simpa using h
theorem NL {tt t2 m z k lo hi : Nat} {u : Value} {r : bE} {x y : Operand} {news zs : List AC} (i : Nat) [S : hP P tt z] (c4 : R i = some r) (hw : want ops ⟨some d, .call ⟨.builtin .copy, #[x, y], #[tt, t2]⟩, ty, pos, after, guard⟩ s = some true) (aa : s.look x = some (aQ u)) (hu : iN r.v r.sz lo hi u) (ai : s.look y = some (cM z m news)) (aN : z = r.sz) (bF : Nat.blt 0 r.sz = true) (h1 : lo ≤ hi) (h2 : hi ≤ r.n) (al : news.all AC.aY = true) (hd : Nat.blt d s.n = true) (af : Nat.min m (hi - lo) = k) (he : eD r.aT (lo * r.sz) (news.take (k * r.sz)) = zs) (pJ : rG dr ⟨some d, .call ⟨.builtin .copy, #[x, y], #[tt, t2]⟩, ty, pos, after, guard⟩ = false)
    (h : cJ P ops dr K rest (bG R i ⟨r.e, r.sz, r.v, r.n, zs⟩) (s.put (some d) (aE (k : Int)))) : cJ P ops dr K (⟨some d, .call ⟨.builtin .copy, #[x, y], #[tt, t2]⟩, ty, pos, after, guard⟩ :: rest) R s := by
  subst aN af he;exact ⟨true, hw, kU hd, .inr (.inl ⟨rfl, d, _, _, rfl, ⟨.copy i r tt t2 m lo hi x y news c4 (by simpa [Nat.blt_eq] using bF) rfl S.h (.inr (.inr ⟨u, aa, hu⟩)) (.inl ai) h1 h2 (b6.1 al), pJ⟩, fun v' hv => by subst hv; exact h⟩)⟩
theorem Zq {tt t2 m z k lo hi en ea : Nat} {u cz : Value} {r : bE} {x y : Operand} {zs : List AC} (i : Nat) [S : hP P tt z] (c4 : R i = some r) (hw : want ops ⟨some d, .call ⟨.builtin .copy, #[x, y], #[tt, t2]⟩, ty, pos, after, guard⟩ s = some true) (aa : s.look x = some (aQ u)) (hu : iN r.v r.sz lo hi u) (ai : s.look y = some (aQ cz)) (Zy : iN r.v r.sz en ea cz) (hm : en + m = ea) (dk : ea ≤ r.n) (aN : z = r.sz) (bF : Nat.blt 0 r.sz = true) (h1 : lo ≤ hi) (h2 : hi ≤ r.n) (al : r.aT.all AC.aY = true) (hd : Nat.blt d s.n = true) (af : Nat.min m (hi - lo) = k) (he : eD r.aT (lo * r.sz) (((r.aT.drop (en * r.sz)).take (m * r.sz)).take (k * r.sz)) = zs) (pJ : rG dr ⟨some d, .call ⟨.builtin .copy, #[x, y], #[tt, t2]⟩, ty, pos, after, guard⟩ = false)
    (h : cJ P ops dr K rest (bG R i ⟨r.e, r.sz, r.v, r.n, zs⟩) (s.put (some d) (aE (k : Int)))) : cJ P ops dr K (⟨some d, .call ⟨.builtin .copy, #[x, y], #[tt, t2]⟩, ty, pos, after, guard⟩ :: rest) R s := by
  subst hm aN af he;exact ⟨true, hw, kU hd, .inr (.inl ⟨rfl, d, _, _, rfl, ⟨.copy i r tt t2 m lo hi x y _ c4 (by simpa [Nat.blt_eq] using bF) rfl S.h (.inr (.inr ⟨u, aa, hu⟩)) (.inr ⟨i, r, en, cz, c4, rfl, ai, Zy, dk, rfl⟩) h1 h2 (fun q an => b6.1 al q (mJ (mI an))), pJ⟩, fun v' hv => by subst hv; exact h⟩)⟩
theorem ze {x y : Operand} {st off : Nat} {r : bE} {z : bx} {eE : TypeInfo} (i : Nat) (hi : R i = some r) (hw : want ops ⟨none, .store st x y, ty, pos, after, guard⟩ s = some true) (aa : s.look x = some (aQ (jx r.v off))) (ai : s.look y = some (.w z)) (ax : 0 < r.n) (aB : P.info? st = some eE) (hs : eE.size = z.cells.length) (ab : off + z.cells.length ≤ r.aT.length) (al : z.cells.all AC.aY = true)
    (h : cJ P ops dr K rest (bG R i ⟨r.e, r.sz, r.v, r.n, eD r.aT off z.cells⟩) s) (iz : R9 dr ⟨none, .store st x y, ty, pos, after, guard⟩ = true := by exact rfl) : cJ P ops dr K (⟨none, .store st x y, ty, pos, after, guard⟩ :: rest) R s :=
  ⟨true, hw, (fun d hd => by cases hd), .inr (.inr (.inl ⟨rfl, iz, _, rfl, .store i r off st x y z eE hi ax rfl aa ai aB hs ab (b6.1 al), h⟩))⟩
theorem za {x : Operand} {lt off : Nat} {r : bE} {c1 : AC} (i : Nat) [T : e6 P lt false 1] (hi : R i = some r) (hw : want ops ⟨some d, .load lt x, ty, pos, after, guard⟩ s = some true) (aa : s.look x = some (aQ (jx r.v off))) (ax : 0 < r.n) (aN : r.aT[off]? = some c1) (al : (ah.w (.one c1)).aY = true) (ap : tX ops dr (some d) = true) (hd : Nat.blt d s.n = true) (h : cJ P ops dr K rest R (s.put (some d) (.w (.one c1)))) : cJ P ops dr K (⟨some d, .load lt x, ty, pos, after, guard⟩ :: rest) R s :=
  zd hw (.load i r off lt x _ hi ax rfl aa (by
    have cB := T.h;unfold kj at cB;unfold pick;cases hu : P.underlying lt with
    | none => rw [hu] at cB; cases cB
    | some D =>
      cases fp : P.info? lt with
      | none => rw [hu, fp] at cB; cases D <;> simp at cB <;> simp [aN]
      | some eE =>
        rw [hu, fp] at cB;cases D <;> simp at cB <;> simp [aN])) al ap hd h
theorem IR {next : aI → aC → Prop} (h : next R s) : Ac next Q .normal R s := h
theorem IQ {next : aI → aC → Prop} {i : Nat} (h : Q (.exit i) R s) : Ac next Q (.exit i) R s := h
theorem afz {next : aI → aC → Prop} (h : Q .ret R s) : Ac next Q .ret R s := h
theorem ID {i : Nat} (h : Q .normal R s) : xr i Q .normal R s := h
theorem aeY {i : Nat} (h : Q .ret R s) : xr i Q .ret R s := h
theorem IE {i : Nat} (h : Q .normal R s) : xr i Q (.exit i) R s := by simp only [xr, Nat.beq_refl, cond_true]; exact h
end
section
variable {P : Program} {s : aC} {ops : Array Oper} {K : aC → Prop} {rest : List Oper} {ty : Nat} {pos : String} {after : Array Edge} {guard : Option (Nat × Bool)} {d : Nat}
theorem UT {fn : Fn} {xs : List Operand} {cs : List AC} (hw : want ops ⟨some d, .makeFunc fn #[] xs.toArray, ty, pos, after, guard⟩ s = some true) (aa : xs.map s.look = cs.map fun x => some (.w (.one x))) (al : cs.all AC.aY = true) (hd : Nat.blt d s.n = true) (h : bc P ops K rest (s.put (some d) (.w (.one (.p (pg fn cs)))))) : bc P ops K (⟨some d, .makeFunc fn #[] xs.toArray, ty, pos, after, guard⟩ :: rest) s := by
 have hlen : xs.length = cs.length := by have := congrArg List.length aa; simpa using this
 have gF : ∀ (i : Nat) (z : Operand), xs[i]? = some z → ∃ x, cs[i]? = some x ∧ s.look z = some (.w (.one x)) := fun i z aN => by
  have h1 : (xs.map s.look)[i]? = some (s.look z) := by rw [eh, aN]; rfl
  rw [aa, eh] at h1;cases an : cs[i]? with
  | none => rw [an] at h1; cases h1
  | some x => rw [an] at h1; exact ⟨x, rfl, (ny h1).symm⟩
 refine fS (av := .w (.one (.p (pg fn cs)))) hw ⟨fun _ _ h => (by cases h), fun z aN => ?_, fun U ad W env he => ⟨.func fn #[] (xs.map env).toArray, ?_, ?_⟩, fun j ae => absurd ae (ly _ j)⟩ hd h
 ·simp [Op.operands] at aN;obtain ⟨i, hi⟩ := jR aN;obtain ⟨x, _, h2⟩ := gF i z hi;exact ⟨_, h2⟩
 ·simp [execOp, Instr.makeFunc]
 ·have jq : ∀ (i : Nat) (x : AC) (u : Value), cs[i]? = some x → (xs.map env)[i]? = some u → gE U ad W x u := fun i x u w4 hu => by
   rw [eh] at hu;cases aN : xs[i]? with
   | none => rw [aN] at hu; cases hu
   | some z =>
    rw [aN] at hu;cases hu;obtain ⟨x', h1, h2⟩ := gF i z aN;rw [w4] at h1;cases h1;exact he z (by simp [Op.operands]; exact cV aN) _ h2
  have cC : ∀ x ∈ cs, ∀ j, ¬ x.owns j := fun x aa j => AC.dq (b6.1 al x aa) j;refine ⟨⟨xs.map env, rfl, ⟨by simpa using hlen.symm, fun i x u w4 hu => ?_⟩, cC⟩, ?_⟩
  ·have h1 := jq i x u w4 hu;cases x with
   | c y => exact h1
   | own k o => exact absurd rfl (cC _ (cV w4) k)
   | p R => exact ⟨h1.1, fun _ _ => trivial⟩
  ·rintro b ⟨vI, e, i, x, u, w4, hu, ab⟩;have bo : xs.map env = vI := by simpa using e
   subst bo;have h1 := jq i x u w4 hu;cases x with
   | c y => cases ab
   | own k o => cases ab
   | p R => exact h1.2 b ab
end
def ta (s : aC) (k j : Nat) : Bool := !(Nat.beq j k) && (match s.mem j with | some ds => ds.all AC.aY | none => false)
def BR (s : aC) (k : Nat) (cs : List AC) : Option ah → Option ah
 | some (.w (.one (.own j off))) => bif Nat.beq j k then some (.w (.one (.p (EO (cs.drop off))))) else bif ta s k j then some (.w (.one (.own j off))) else none
 | some av => bif av.aY then some av else none
 | none => none
def oC (s : aC) (k : Nat) (cs : List AC) : aC := ⟨s.n, fun t => BR s k cs (s.tmps t), fun j => bif ta s k j then s.mem j else none⟩
theorem F2 {s : aC} {k j : Nat} (h : ta s k j = true) : j ≠ k ∧ ∃ ds, s.mem j = some ds ∧ ds.all AC.aY = true := by
 unfold ta at h;simp only [c5, oc] at h;refine ⟨fun e => by subst e; simp at h, ?_⟩;cases hm : s.mem j with
 | none => rw [hm] at h; simp at h
 | some ds => rw [hm] at h; exact ⟨ds, rfl, h.2⟩
theorem Xj {s : aC} {k : Nat} {cs : List AC} (ok : s.cN) : (oC s k cs).cN := by
 refine ⟨fun t av j aB ae => ?_, fun i ds x j hi aa ae => ?_⟩
 ·have key : ∀ o, BR s k cs o = some av → ∃ ds, (oC s k cs).mem j = some ds := by
   intro o aA;unfold BR at aA
   split at aA
   ·rename_i eR off;cases ab : Nat.beq eR k with
    | true => rw [ab] at aA; simp at aA; subst aA; obtain ⟨y, ai, ae⟩ := ae; simp [bx.cells] at ai; subst ai; cases ae
    | false =>
     rw [ab] at aA;cases af : ta s k eR with
     | false => rw [af] at aA; simp at aA
     | true =>
      rw [af] at aA;simp at aA;subst aA;obtain ⟨y, ai, ae⟩ := ae;simp [bx.cells] at ai;subst ai;have e : j = eR := ae;subst e;obtain ⟨_, ds, hm, _⟩ := F2 af;exact ⟨ds, by simp only [oC, af, cond_true]; exact hm⟩
   ·rename_i KM _;cases al : KM.aY with
    | false => rw [al] at aA; simp at aA
    | true => rw [al] at aA; simp at aA; subst aA; exact absurd ae (ah.dq al j)
   ·cases aA
  exact key _ aB
 ·simp only [oC] at hi;cases af : ta s k i with
  | false => rw [af] at hi; simp at hi
  | true =>
   rw [af] at hi;simp at hi;obtain ⟨_, Wx, hm, al⟩ := F2 af;rw [hm] at hi;cases hi;exact absurd ae (AC.dq (b6.1 al x aa) j)
theorem Xk {s : aC} {k : Nat} {cs : List AC} {W : World} {A : Nat → Prop} {ad : Nat → Nat} {a : Act} {w : World} (af : s.mem k = some cs) (cC : cs.all AC.aY = true) (aw : Rel (eZ.all W) A s ad a w) : Rel (eZ.all W) A (oC s k cs) ad a w := by
 have pO : ∀ j ds, (oC s k cs).mem j = some ds → j ≠ k ∧ s.mem j = some ds := fun j ds ae => by
  simp only [oC] at ae;cases ab : ta s k j with
  | false => rw [ab] at ae; simp at ae
  | true => rw [ab] at ae; simp at ae; exact ⟨(F2 ab).1, ae⟩
 have jG : ∀ b, s.free A ad b → (oC s k cs).free A ad b := fun b ab => ⟨ab.1, fun j ds ae => ab.2 j ds (pO j ds ae).2⟩;obtain ⟨vs, ajD, g1, g2, g3⟩ := aw.dC k cs af
 have XH : A (ad k) := aw.up _ (by
  have : ¬ ad k < W.heap.size := g3;show W.heap.size ≤ ad k;omega)
 have bb : ad k < w.heap.size := aw.lt af
 have YC : (oC s k cs).free A ad (ad k) := ⟨XH, fun j ds ae e => by
  obtain ⟨h1, h2⟩ := pO j ds ae;exact h1 (aw.inj j k _ _ h2 af e)⟩
 have rP : ∀ y ∈ cs, y.aY = true := b6.1 cC;refine ⟨aw.pY, aw.size, fun t av aB => ?_, fun j ds ae => ?_, fun j eR c1 c2 h1 h2 e => aw.inj j eR _ _ (pO j c1 h1).2 (pO eR c2 h2).2 e, aw.below, aw.up, aw.j7⟩
 ·simp only [oC] at aB;cases aA : s.tmps t with
  | none => rw [aA] at aB; cases aB
  | some o =>
   rw [aA] at aB;obtain ⟨v, h1, h2⟩ := aw.hc t o aA;refine ⟨v, h1, ?_⟩;have ao : cX ((oC s k cs).free A ad) ad w o v := h2.map (fun b ab _ => ⟨jG b ab, rfl⟩) fun _ _ => rfl;unfold BR at aB
   split at aB
   ·rename_i eR off rR;cases rR;cases ab : Nat.beq eR k with
    | true =>
     rw [ab] at aB;simp at aB;subst aB;have e : eR = k := hr ab;subst e;have hv : v = .pointer (some ⟨ad eR, off, none⟩) := h2;subst hv
     have qE : kL w ⟨ad eR, off, none⟩ (cs.drop off) (vs.drop off) := by
      refine ⟨bb, ⟨by simp [g2.1], fun i x u aa hu => ?_⟩, fun i u hu => ?_, fun y ai => rP y (mJ ai)⟩
      ·rw [fP] at aa hu;have cm := g2.2 _ x u aa hu;have Yd := rP x (cV aa);cases x with
       | c y => exact cm
       | own k o => cases Yd
       | p S => exact ⟨cm.1, fun _ _ => trivial⟩
      ·rw [fP] at hu;have ku : (⟨ad eR, off, none⟩ : Addr).add i = ⟨ad eR, off + i, none⟩ := by unfold Addr.add; split <;> simp_all
       rw [ku];simp only [World.cell?, g1];simpa using hu
     refine ⟨⟨_, _, rfl, qE⟩, ?_⟩;rintro b ⟨a', e, au⟩;cases e;rcases au with rfl | ⟨i, y, u, ai, hu, gx⟩
     ·exact YC
     ·rw [fP] at ai;have Nr : off + i < vs.length := by rw [← g2.1]; exact (bA.1 ai).1
      have eQ := qE.at_ i vs[off + i] (by rw [fP]; exact bJ Nr);rw [hu] at eQ;cases eQ;have jE := g2.2 _ y _ ai (bJ Nr);cases y with
      | c y => cases gx
      | own k o => cases gx
      | p S => exact jG b (jE.2 b gx)
    | false =>
     rw [ab] at aB;cases oG : ta s k eR with
     | false => rw [oG] at aB; simp at aB
     | true => rw [oG] at aB; simp at aB; subst aB; exact ao
   ·rename_i KM rR;cases rR;cases al : ah.aY o with
    | false => rw [al] at aB; simp at aB
    | true => rw [al] at aB; simp at aB; subst aB; exact ao
   ·rename_i rR; cases rR
 ·obtain ⟨h1, h2⟩ := pO j ds ae;obtain ⟨us, agQ, q1, q2, bR⟩ := aw.dC j ds h2;exact ⟨us, agQ, q1, q2.map (fun b ab _ => ⟨jG b ab, rfl⟩) fun _ _ _ _ => rfl, bR⟩
section
variable {P : Program} {x y : Code} {Q : Exit → aC → Prop} {s : aC}
theorem Fh (h : fj P x Q s) : sG P x Q s := fun ok W A ad a w aw => (h ok (eZ.all W) A ad a w aw).top
theorem KZ (h : sG P x (rD (fun s' => sG P y Q s') Q) s) : sG P (.seq x y) Q s := by
 intro ok W A ad a w aw;refine wp_seq (wp_mono (h ok W A ad a w aw) ?_);rintro e a' w' ⟨s', a7, dO, ct, an⟩;cases e <;> first | exact an dO W A a7 a' w' ct | exact ⟨s', a7, dO, ct, an⟩
theorem KY (k : Nat) (cs : List AC) (af : s.mem k = some cs) (cC : cs.all AC.aY = true) (h : sG P x Q (oC s k cs)) : sG P x Q s := by
 intro ok W A ad a w aw;exact h (Xj ok) W A ad a w (Xk af cC aw)
end
def TU (z n : Nat) (xs : List AC) : e0 where
 holds w v := (bX z n xs).holds w v ∧ ∃ A, v = .slice A n n
 kW := (bX z n xs).kW
 frame w w' v := by
  rintro ⟨h1, h2⟩ au;have := (bX z n xs).frame w w' v h1 au;exact ⟨⟨this.1, h2⟩, this.2⟩
 ik w v b := by
  rintro ⟨h1, h2⟩ au;exact (bX z n xs).ik w v b h1 au
 cell w v := by
  rintro ⟨h1, h2⟩;exact (bX z n xs).cell w v h1
theorem js {n : Nat} (h : n ≤ 1000000) : n ≤ maxLen := il h (by decide)
abbrev Es (z n : Nat) (xs : List AC) : ah := .w (.one (.p (TU z n xs)))
section
variable {P : Program} {U : Nat → Prop} {ad : Nat → Nat} {W bf : World}
theorem D9 {z n l h c c' : Nat} {xs : List AC} {A : Option Addr} (aa : cX U ad W (cM z n xs) (.slice A n c)) (h1 : l ≤ h) (h2 : h ≤ n) (ao : h ≤ c') : cX U ad W (cM z (h - l) ((xs.drop (l * z)).take ((h - l) * z))) (sliced A l h c' z) := by
 obtain ⟨⟨dU, gQ, aF, al, ak, ec⟩, di⟩ := aa;cases aF;have hm : (h - l) * z ≤ n * z - l * z := by rw [← Nat.sub_mul]; exact kg _ (by omega)
 refine ⟨⟨if c' = l then A else A.map (·.add (l * z)), c' - l, rfl, by omega, by rw [dX, h0, ak]; exact o7 hm, fun ax => ?_⟩, ?_⟩
 ·obtain ⟨a, vs, rfl, eu⟩ := ec (by omega);have bU : ¬ c' = l := by omega
  rw [if_neg bU];exact ⟨a.add (l * z), _, rfl, eu.sub (l * z) ((h - l) * z)⟩
 ·rintro b ⟨c2, a', q, ax, au⟩;obtain ⟨a, vs, rfl, eu⟩ := ec (by omega);have bU : ¬ c' = l := by omega
  unfold sliced at q;rw [if_neg bU] at q;simp at q;obtain ⟨rfl, _⟩ := q;exact di b ⟨c, a, rfl, by omega, mY.sub (off := l * z) (n := (h - l) * z) au⟩
theorem MH {z n c : Nat} {xs : List AC} {vs : List Value} {cur : Array Value} {e : TypeId} (ak : bL U id W xs vs) (cC : ∀ y ∈ xs, y.aY = true) (hlen : xs.length = n * z) (eO : n ≤ c) (hold : ∀ b, b < W.heap.size → bf.heap[b]? = W.heap[b]?) (pP : bf.heap[W.heap.size]? = some (.cells cur e (0, 0))) (Yo : cur.toList.take (n * z) = vs) : cX (fun b => U b ∨ W.heap.size ≤ b) ad bf (cM z n xs) (.slice (some ⟨W.heap.size, 0, none⟩) n c) := by
 have bb : W.heap.size < bf.heap.size := (jU.1 pP).1;have fb : bL U id bf xs vs := ak.map (fun b ab bb => ⟨ab, hold b bb⟩) (fun _ _ _ _ => rfl)
 have gF : ∀ (j : Nat) v, vs[j]? = some v → bf.cell? ((⟨W.heap.size, 0, none⟩ : Addr).add j) = some v := fun j v hv => by
  have ku : (⟨W.heap.size, 0, none⟩ : Addr).add j = ⟨W.heap.size, j, none⟩ := by unfold Addr.add; split <;> simp_all
  rw [ku, cell_of_row bf _ j cur e (0, 0) pP];rw [← Yo, List.getElem?_take] at hv
  split at hv
  ·simpa using hv
  ·cases hv
 have qE : kL bf ⟨W.heap.size, 0, none⟩ xs vs := ⟨bb, fb.map (fun b _ _ => ⟨trivial, rfl⟩) (fun _ _ _ _ => rfl), gF, cC⟩;refine ⟨⟨some ⟨W.heap.size, 0, none⟩, c, rfl, eO, hlen, fun ax => ⟨_, vs, rfl, qE⟩⟩, ?_⟩;rintro b ⟨c', a', q, ax, au⟩;cases q;rcases au with rfl | ⟨j, y, v, ai, hv, gx⟩
 ·exact .inr (dE _)
 ·have ae : j < vs.length := by rw [← ak.1]; exact (bA.1 ai).1
  have h2 := gF j _ (bJ ae);rw [hv] at h2;cases h2;have ao := fb.2 j y _ ai (bJ ae);cases y with
  | c u => cases gx
  | own k o => cases gx
  | p S => exact .inl (ao.2 b gx)
theorem afs {xs : List AC} {vs : List Value} (h : bL U ad W xs vs) (al : ∀ y ∈ xs, y.aY = true) : bL U id W xs vs :=
 ⟨h.1, fun i x v aa hv => (h.2 i x v aa hv).map (fun b ab _ => ⟨ab, rfl⟩) fun j ae => absurd ae (AC.dq (al x (cV aa)) j)⟩
theorem afr {xs aT : List AC} {us vs : List Value} (h1 : bL U ad W xs us) (h2 : bL U ad W aT vs) : bL U ad W (xs ++ aT) (us ++ vs) := by
 refine ⟨by rw [cF, cF, h1.1, h2.1], fun i x v aa hv => ?_⟩;rcases hZ i xs.length with bb | kx
 ·rw [gl bb] at aa;rw [gl (by rw [← h1.1]; exact bb)] at hv;exact h1.2 i x v aa hv
 ·rw [gL kx] at aa;rw [gL (by rw [← h1.1]; exact kx), ← h1.1] at hv;exact h2.2 _ x v aa hv
theorem xz {z n : Nat} {xs : List AC} {v : Value} (h : cX U ad W (cM z n xs) v) : ∃ A c vs, v = .slice A n c ∧ n ≤ c ∧ xs.length = n * z ∧ bL U id W xs vs ∧ (∀ y ∈ xs, y.aY = true) ∧ (∀ b, A = some b → ∀ (j : Nat) u, vs[j]? = some u → W.cell? (b.add j) = some u) ∧ (A = none → n = 0) := by
 rcases vu n with rfl | ax
 ·obtain ⟨⟨A, c, e, al, ak, ec⟩, di⟩ := h;have : xs = [] := jv (by rw [ak]; simp);subst this;exact ⟨A, c, [], e, al, ak, ⟨rfl, fun i x v aa => by simp at aa⟩, fun y ai => (by cases ai), fun b _ j u hu => by simp at hu, fun _ => rfl⟩
 ·have az := h;obtain ⟨b, c, vs, e, al, ak, gF, pR⟩ := bX.Fp h ax;obtain ⟨⟨A, c', bo, _, _, ec⟩, _⟩ := az;rw [e] at bo;cases bo;obtain ⟨a, us, iv, eu⟩ := ec ax;exact ⟨some b, c, vs, e, al, ak, afs pR eu.pA, eu.pA, fun bS e => by cases e; exact gF, fun e => by cases e⟩
theorem afA {tt e z n m bytes ty : Nat} {xs aT : List AC} {x y : Value} (aB : vx P tt e z bytes = true) (aa : cX U ad W (Es z n xs) x) (ai : cX U ad W (cM z m aT) y) (h1 : n + m ≤ maxLen) (h2 : (n + m) * bytes ≤ 140737488355328) :
  ∃ v bf, (Builtin.append_ #[tt, tt] ty #[x, y]).run P W = .ok v bf ∧ cX (fun b => U b ∨ W.heap.size ≤ b) ad bf (cM z (n + m) (xs ++ aT)) v ∧ Below W.heap.size W bf := by
 obtain ⟨eE, Jy, hu, e3, aN, hB, kY, oM, bF⟩ := rj aB;have kA : cX U ad W (cM z n xs) x := ⟨aa.1.1, aa.2⟩;obtain ⟨bK, L3⟩ := aa.1.2;obtain ⟨A, c, us, ex, eO, kZ, NJ, B8, X8, jI⟩ := xz kA;rw [L3] at ex;cases ex;obtain ⟨Ez, LU, vs, rfl, aiM, yX, Hb, Nb, M8, Y5⟩ := xz ai;subst L3;have Ge : n + m ≤ 9223372036854775807 := by simp only [maxLen] at h1; omega
 rcases vu m with rfl | Ct
 ·have ZK : aT = [] := jv (by rw [yX]; simp);subst ZK;refine ⟨.slice bK n n, W, ?_, ?_, Below.refl _ _⟩
  ·cases bK <;> cases Ez <;> simp [Builtin.append_, run_underlying hu, sizeOf, typeInfo, e3, Builtin.lenOf, Builtin.firstCells, storeCells, loadCells, loadCellsFrom]
  ·rw [Nat.add_zero, p0];exact cX.map kA (fun b ab _ => ⟨.inl ab, rfl⟩) fun _ _ => rfl
 ·obtain ⟨a, rfl⟩ : ∃ a, Ez = some a := by
   cases Ez with
   | none => have := Y5 rfl; omega
   | some a => exact ⟨a, rfl⟩
  have mv : vs.length = m * eE.size := by rw [hB, ← Hb.1]; exact yX
  have cC : ∀ q ∈ xs ++ aT, q.aY = true := fun q an => by
   rcases jS.1 an with h | h
   ·exact B8 q h
   ·exact Nb q h
  have hlen : (xs ++ aT).length = (n + m) * z := by rw [cF, kZ, yX, kf]
  cases bK with
  | none =>
   have y1 : n = 0 := jI rfl;subst y1;have CE : xs = [] := jv (by rw [kZ]; simp);subst CE;have ap := run_append_nil (P := P) W tt ty e eE Jy hu e3 aN a m LU vs mv (M8 a rfl) Ct (by omega) (by rw [kY]; simp only [je] at h2; omega);refine ⟨_, _, ap, ?_, (Below.drew (Below.refl _ W)).alloc (dE _) _⟩;have YY : aT.length = (0 + m) * z := by rw [yX, je]
   rw [List.nil_append];have cq : 0 + m = m := je m;rw [cq];refine MH (vs := vs) (e := e) Hb Nb yX (grownCap_ge _ _ _ _) (fun b ab => by first | exact heap_alloc_old W.drew _ b ab | exact heap_alloc_old W.drew _ ab) (heap_alloc_new W.drew _) ?_;rw [Array.toList_append, List.toList_toArray, zW (by rw [mv, hB]; exact dE _), gn (by rw [mv, hB]; exact dE _)]
  | some b =>
   have wY : us.length = n * eE.size := by rw [hB, ← NJ.1]; exact kZ
   have ap := run_append_grow (P := P) W tt ty e eE Jy hu e3 aN b n n us wY (X8 b rfl) a m LU vs mv (M8 a rfl) (by omega) (by omega) (growslice_fits (by omega) (by rw [kY]; exact h2));refine ⟨_, _, ap, ?_, (Below.drew (Below.refl _ W)).alloc (dE _) _⟩;refine MH (vs := us ++ vs) (e := e) (afr NJ Hb) cC hlen (grownCap_ge _ _ _ _) (fun b ab => by first | exact heap_alloc_old W.drew _ b ab | exact heap_alloc_old W.drew _ ab) (heap_alloc_new W.drew _) ?_;have nf : (us ++ vs).length = (n + m) * z := by rw [cF, wY, mv, hB, kf]
   rw [Array.toList_append, Array.toList_append, List.toList_toArray, List.toList_toArray, zW (by rw [nf]; exact dE _), gn (by rw [nf]; exact dE _)]
end
section
variable {P : Program} {s : aC} {ops : Array Oper} {K : aC → Prop} {rest : List Oper} {ty : Nat} {pos : String} {after : Array Edge} {guard : Option (Nat × Bool)} {d : Nat}
theorem Kq {tt e z n m k bytes : Nat} {x y : Operand} {xs aT zs : List AC} [T : mV P tt e z bytes] (hw : want ops ⟨some d, .call ⟨.builtin .append, #[x, y], #[tt, tt]⟩, ty, pos, after, guard⟩ s = some true) (aa : s.look x = some (Es z n xs)) (ai : s.look y = some (cM z m aT)) (h1 : n + m ≤ maxLen) (h2 : (n + m) * bytes ≤ 140737488355328) (af : n + m = k) (aN : xs ++ aT = zs) (hd : Nat.blt d s.n = true) (h : bc P ops K rest (s.put (some d) (cM z k zs))) : bc P ops K (⟨some d, .call ⟨.builtin .append, #[x, y], #[tt, tt]⟩, ty, pos, after, guard⟩ :: rest) s := by
 subst af aN;refine E8 (av := cM z (n + m) (xs ++ aT)) hw ⟨fun q an => ?_, fun j ae => ly _ j ae, fun U ad W env he => ?_⟩ hd h
 ·simp [Op.operands, Call.operands] at an;rcases an with rfl | rfl
  ·exact ⟨_, aa⟩
  ·exact ⟨_, ai⟩
 ·obtain ⟨v, bf, ap, ao, aD⟩ := afA (ty := ty) T.h (he x (by simp [Op.operands, Call.operands]) _ aa) (he y (by simp [Op.operands, Call.operands]) _ ai) h1 h2;exact ⟨v, bf, by simp only [execOp, resolve, invoke, builtin, Sem.run_bind, Sem.run_pure, Result.andThen_ok, List.map_toArray, kG, List.map_nil, ap], ao, aD⟩
theorem KB {t sz e bytes : Nat} [S : hP P t sz] [T : mV P t e sz bytes] (hw : want ops ⟨some d, .buildSlice t 0 #[], ty, pos, after, guard⟩ s = some true) (hd : Nat.blt d s.n = true) (h : bc P ops K rest (s.put (some d) (Es sz 0 []))) : bc P ops K (⟨some d, .buildSlice t 0 #[], ty, pos, after, guard⟩ :: rest) s := by
 refine E8 (av := Es sz 0 []) hw ⟨fun q an => ?_, fun j ae => ly _ j ae, fun U ad W env he => ?_⟩ hd h
 ·simp [Op.operands] at an
 ·obtain ⟨eE, Jy, hu, e3, aN, hB, kY, oM, bF⟩ := rj T.h;refine ⟨.slice (some ⟨W.heap.size, 0, none⟩) 0 0, W.alloc (.cells #[] e), ?_, ⟨⟨⟨_, 0, rfl, dE _, by simp, fun h => absurd h (Nat.lt_irrefl _)⟩, _, rfl⟩, fun b ⟨c, a, q, ax, _⟩ => absurd ax (Nat.lt_irrefl _)⟩, (Below.refl _ _).alloc (dE _) _⟩;simp [execOp, Instr.buildSlice, Sem.run_bind, run_underlying hu, hK e3, Instr.fill, newRow, newObj, Sem.run, Array.range_zero']
theorem U9 {tt z n m : Nat} {x y : Operand} {l : Int} {xs aT : List AC} [S : hP P tt z] (hw : want ops ⟨some d, .slice tt x (some y) none none, ty, pos, after, guard⟩ s = some true) (aa : s.look x = some (cM z n xs)) (ai : s.look y = some (aE l)) (az : 0 ≤ l) (h1 : l ≤ n) (hm : n - l.toNat = m) (he : (xs.drop (l.toNat * z)).take (m * z) = aT) (hd : Nat.blt d s.n = true) (h : bc P ops K rest (s.put (some d) (cM z m aT))) : bc P ops K (⟨some d, .slice tt x (some y) none none, ty, pos, after, guard⟩ :: rest) s := by
 subst hm he;refine fS (av := cM z (n - l.toNat) ((xs.drop (l.toNat * z)).take ((n - l.toNat) * z))) hw ⟨fun _ _ h => (by cases h), fun q an => ?_, fun U ad W env he => ?_, fun j ae => absurd ae (ly _ j)⟩ hd h
 ·simp [Op.operands] at an;rcases an with rfl | rfl
  ·exact ⟨_, aa⟩
  ·exact ⟨_, ai⟩
 ·have hv := he x (by simp [Op.operands]) _ aa;obtain ⟨A, c, us, ex, eO, _⟩ := xz hv;rw [ex] at hv;have jm : env y = .int .i64 l := (he y (by simp [Op.operands]) _ ai).1;obtain ⟨bo, fs, hu, c4, hs⟩ := mN S.h;have e4 : P.underlying tt = some (.slice (P.elem tt)) := by rw [kr hu]; exact hu
  refine ⟨_, ?_, D9 (c' := c) hv (by omega) (by omega) (by omega)⟩;simp only [execOp, ex, ha, sr, jm, Sem.run_bind, run_sliceAt_slice W tt _ _ _ _ e4, run_slice_l W tt A n c e4 .i64 l az h1, kr hu, hK c4, Result.andThen_ok, hs, Sem.run_pure]
theorem Va {tt z n m : Nat} {x y u : Operand} {l r : Int} {xs aT : List AC} [S : hP P tt z] (hw : want ops ⟨some d, .slice tt x (some y) (some u) none, ty, pos, after, guard⟩ s = some true) (aa : s.look x = some (cM z n xs)) (ai : s.look y = some (aE l)) (hu : s.look u = some (aE r)) (az : 0 ≤ l) (h1 : l ≤ r) (h2 : r ≤ n) (hm : r.toNat - l.toNat = m) (he : (xs.drop (l.toNat * z)).take (m * z) = aT) (hd : Nat.blt d s.n = true) (h : bc P ops K rest (s.put (some d) (cM z m aT))) : bc P ops K (⟨some d, .slice tt x (some y) (some u) none, ty, pos, after, guard⟩ :: rest) s := by
 subst hm he;refine fS (av := cM z (r.toNat - l.toNat) ((xs.drop (l.toNat * z)).take ((r.toNat - l.toNat) * z))) hw ⟨fun _ _ h => (by cases h), fun q an => ?_, fun U ad W env he => ?_, fun j ae => absurd ae (ly _ j)⟩ hd h
 ·simp [Op.operands] at an;rcases an with rfl | rfl | rfl
  ·exact ⟨_, aa⟩
  ·exact ⟨_, ai⟩
  ·exact ⟨_, hu⟩
 ·have hv := he x (by simp [Op.operands]) _ aa;obtain ⟨A, c, us, ex, eO, _⟩ := xz hv;rw [ex] at hv;have jm : env y = .int .i64 l := (he y (by simp [Op.operands]) _ ai).1;have rL : env u = .int .i64 r := (he u (by simp [Op.operands]) _ hu).1;obtain ⟨bo, fs, hu, c4, hs⟩ := mN S.h;have e4 : P.underlying tt = some (.slice (P.elem tt)) := by rw [kr hu]; exact hu
  refine ⟨_, ?_, D9 (c' := c) hv (by omega) (by omega) (by omega)⟩;simp only [execOp, ex, ha, sr, jm, rL, Sem.run_bind, run_sliceAt_slice W tt _ _ _ _ e4, run_slice_lh W tt A n c e4 .i64 .i64 l r az h1 (by omega), kr hu, hK c4, Result.andThen_ok, hs, Sem.run_pure]
theorem Fb {tt z n m : Nat} {x y u : Operand} {r k : Int} {xs aT : List AC} [S : hP P tt z] (hw : want ops ⟨some d, .slice tt x none (some y) (some u), ty, pos, after, guard⟩ s = some true) (aa : s.look x = some (cM z n xs)) (ai : s.look y = some (aE r)) (hu : s.look u = some (aE k)) (az : 0 ≤ r) (h1 : r ≤ k) (h2 : k ≤ n) (hm : r.toNat - 0 = m) (he : (xs.drop (0 * z)).take (m * z) = aT) (hd : Nat.blt d s.n = true) (h : bc P ops K rest (s.put (some d) (cM z m aT))) : bc P ops K (⟨some d, .slice tt x none (some y) (some u), ty, pos, after, guard⟩ :: rest) s := by
 subst hm he;refine fS (av := cM z (r.toNat - 0) ((xs.drop (0 * z)).take ((r.toNat - 0) * z))) hw ⟨fun _ _ h => (by cases h), fun q an => ?_, fun U ad W env he => ?_, fun j ae => absurd ae (ly _ j)⟩ hd h
 ·simp [Op.operands] at an;rcases an with rfl | rfl | rfl
  ·exact ⟨_, aa⟩
  ·exact ⟨_, ai⟩
  ·exact ⟨_, hu⟩
 ·have hv := he x (by simp [Op.operands]) _ aa;obtain ⟨A, c, us, ex, eO, _⟩ := xz hv;rw [ex] at hv;have jm : env y = .int .i64 r := (he y (by simp [Op.operands]) _ ai).1;have rL : env u = .int .i64 k := (he u (by simp [Op.operands]) _ hu).1;obtain ⟨bo, fs, hu, c4, hs⟩ := mN S.h;have e4 : P.underlying tt = some (.slice (P.elem tt)) := by rw [kr hu]; exact hu
  refine ⟨_, ?_, D9 (c' := k.toNat) hv (by omega) (by omega) (by omega)⟩;simp only [execOp, ex, ha, sr, jm, rL, Sem.run_bind, run_sliceAt_slice W tt _ _ _ _ e4, run_slice_hm W tt A n c e4 .i64 .i64 r k az h1 (by omega), kr hu, hK c4, Result.andThen_ok, hs, Sem.run_pure]
theorem Fc {tt z n m : Nat} {x y u q : Operand} {l r k : Int} {xs aT : List AC} [S : hP P tt z] (hw : want ops ⟨some d, .slice tt x (some y) (some u) (some q), ty, pos, after, guard⟩ s = some true) (aa : s.look x = some (cM z n xs)) (ai : s.look y = some (aE l)) (hu : s.look u = some (aE r)) (an : s.look q = some (aE k)) (az : 0 ≤ l) (h1 : l ≤ r) (h2 : r ≤ k) (ao : k ≤ n) (hm : r.toNat - l.toNat = m) (he : (xs.drop (l.toNat * z)).take (m * z) = aT) (hd : Nat.blt d s.n = true) (h : bc P ops K rest (s.put (some d) (cM z m aT))) : bc P ops K (⟨some d, .slice tt x (some y) (some u) (some q), ty, pos, after, guard⟩ :: rest) s := by
 subst hm he;refine fS (av := cM z (r.toNat - l.toNat) ((xs.drop (l.toNat * z)).take ((r.toNat - l.toNat) * z))) hw ⟨fun _ _ h => (by cases h), fun q an => ?_, fun U ad W env he => ?_, fun j ae => absurd ae (ly _ j)⟩ hd h
 ·simp [Op.operands] at an;rcases an with rfl | rfl | rfl | rfl
  ·exact ⟨_, aa⟩
  ·exact ⟨_, ai⟩
  ·exact ⟨_, hu⟩
  ·exact ⟨_, an⟩
 ·have hv := he x (by simp [Op.operands]) _ aa;obtain ⟨A, c, us, ex, eO, _⟩ := xz hv;rw [ex] at hv;have jm : env y = .int .i64 l := (he y (by simp [Op.operands]) _ ai).1;have rL : env u = .int .i64 r := (he u (by simp [Op.operands]) _ hu).1;have eq : env q = .int .i64 k := (he q (by simp [Op.operands]) _ an).1;obtain ⟨bo, fs, hu, c4, hs⟩ := mN S.h;have e4 : P.underlying tt = some (.slice (P.elem tt)) := by rw [kr hu]; exact hu
  refine ⟨_, ?_, D9 (c' := k.toNat) hv (by omega) (by omega) (by omega)⟩;simp only [execOp, ex, ha, sr, jm, rL, eq, Sem.run_bind, run_sliceAt_slice W tt _ _ _ _ e4, run_slice_lhm W tt A n c e4 .i64 .i64 .i64 l r k az h1 h2 (by omega), kr hu, hK c4, Result.andThen_ok, hs, Sem.run_pure]
end
def bD : List (Int × Int) → List AC
 | [] => []
 | p :: l => .c (.int .i64 p.1) :: .c (.int .i64 p.2) :: bD l
abbrev gq (l : List (Int × Int)) : ah := cM 2 l.length (bD l)
theorem Ok : ∀ (l : List (Int × Int)) (i : Nat) (p : Int × Int), l[i]? = some p → ((bD l).drop (i * 2)).take 2 = [.c (.int .i64 p.1), .c (.int .i64 p.2)]
 | [], i, p, h => by simp at h
 | q :: l, 0, p, h => by simp at h; subst h; simp [bD]
 | q :: l, i + 1, p, h => by
  have e : (i + 1) * 2 = i * 2 + 1 + 1 := by omega
  rw [e];simp only [bD, List.drop_succ_cons];exact Ok l i p (by simpa using h)
theorem lV {l : List (Int × Int)} {j : Int} {i : Nat} {x y : Int} (ae : j = i) (h : l[i]? = some (x, y)) : ((bD l).drop (j.toNat * 2)).take 2 = [.c (.int .i64 x), .c (.int .i64 y)] := by
 subst ae;exact Ok l i (x, y) h
theorem n5 : ∀ (l : List (Int × Int)), (bD l).length = l.length * 2
 | [] => rfl
 | p :: l => by simp only [bD, jQ, n5 l]; omega
theorem qQ : ∀ (l m : List (Int × Int)), bD (l ++ m) = bD l ++ bD m
 | [], _ => rfl
 | p :: l, m => by simp only [List.cons_append, bD, qQ l m]
theorem vg : ∀ (l : List (Int × Int)), (bD l).all AC.aY = true
 | [] => rfl
 | p :: l => by simp only [bD, jV, vg l]; rfl
def ck (l : List Int) : List AC := l.map fun x => .c (.int .i64 x)
abbrev ol (l : List Int) : ah := cM 1 l.length (ck l)
theorem w5 {l : List Int} {j : Int} {i : Nat} {x : Int} (ae : j = i) (h : l[i]? = some x) : ((ck l).drop (j.toNat * 1)).take 1 = [.c (.int .i64 x)] := by
 subst ae;have hi := (bA.1 h).1;rw [kH, Nat.mul_one, mG (by simpa [ck] using hi)];have : l[i] = x := (bA.1 h).2;simp [ck, this]
theorem CL (l m : List Int) : ck (l ++ m) = ck l ++ ck m := by simp [ck]
instance ai7 : mV Tryz.prog 32 3 1 8 := ⟨by kernel_rfl⟩
def yg (x y z w : Int) (fx fy : Bool) : Bool := if x < z then !fx else if z < x then fx else if y < w then !fy else decide (w < y) && fy
end Go.Proofs.YtbcecodakfejaaaGreat
namespace Go.Proofs.YtbcecodakfejaaaGreat
abbrev aj := Int × Int
def dN (fx fy : Bool) (p q : aj) : Bool := yg p.1 p.2 q.1 q.2 fx fy
theorem ye {fx fy : Bool} {p q : aj} : dN fx fy p q = true ↔ (if fx then q.1 < p.1 else p.1 < q.1) ∨ (p.1 = q.1 ∧ if fy then q.2 < p.2 else p.2 < q.2) := by
 unfold dN yg
 by_cases h1 : p.1 < q.1
 ·cases fx <;> simp [h1] <;> omega
 ·by_cases h2 : q.1 < p.1
  ·cases fx <;> simp [h1, h2] <;> omega
  ·have e : p.1 = q.1 := by omega
   by_cases ao : p.2 < q.2
   ·cases fx <;> cases fy <;> simp [h1, h2, ao, e] <;> omega
   ·cases fx <;> cases fy <;> simp [h1, h2, ao, e] <;> omega
theorem yf {fx fy : Bool} {p q r : aj} (h1 : dN fx fy p q = true) (h2 : dN fx fy q r = true) : dN fx fy p r = true := by
 rw [ye] at *;cases fx <;> cases fy <;> simp at * <;> omega
theorem Kl {fx fy : Bool} {p : aj} : dN fx fy p p = false := by
 cases h : dN fx fy p p with
 | false => rfl
 | true => rw [ye] at h; cases fx <;> cases fy <;> simp at h
theorem Kk {fx fy : Bool} {p q : aj} (h1 : dN fx fy p q = true) : dN fx fy q p = false := by
 cases h : dN fx fy q p with
 | false => rfl
 | true => have := yf h1 h; rw [Kl] at this; cases this
theorem E3 {fx fy : Bool} {p q : aj} (h : p ≠ q) : dN fx fy p q = true ∨ dN fx fy q p = true := by
 rw [ye, ye]
 have : p.1 ≠ q.1 ∨ p.2 ≠ q.2 := by
  by_cases h1 : p.1 = q.1
  ·exact .inr fun h2 => h (Prod.ext h1 h2)
  ·exact .inl h1
 cases fx <;> cases fy <;> simp <;> omega
def j2 (fx fy : Bool) (l : List aj) : Prop := l.Pairwise fun p q => dN fx fy p q = true
theorem KK {fx fy : Bool} : ∀ {l m : List aj}, j2 fx fy l → j2 fx fy m → l.Perm m → l = m
 | [], m, _, _, hp => by have := hp.nil_eq; exact this
 | p :: l, [], _, _, hp => by have := hp.length_eq; simp at this
 | p :: l, q :: m, ak, hm, hp => by
  have h1 := ir.1 ak;have h2 := ir.1 hm
  have e : p = q := by
   rcases gj.1 (hp.mem_iff.1 (jd ..) : p ∈ q :: m) with h | h
   ·exact h
   ·rcases gj.1 (hp.mem_iff.2 (jd ..) : q ∈ p :: l) with aK | aK
    ·exact aK.symm
    ·have a := h1.1 q aK;have b := h2.1 p h;rw [Kk a] at b; cases b
  subst e;rw [KK h1.2 h2.2 (List.perm_cons p |>.1 hp)]
def lU (fx fy : Bool) (q : aj) : List aj → List aj
 | [] => [q]
 | p :: l => if dN fx fy q p then q :: p :: l else p :: lU fx fy q l
theorem zr (fx fy : Bool) (q : aj) : ∀ l, (lU fx fy q l).Perm (q :: l)
 | [] => .refl _
 | p :: l => by
  unfold lU
  split
  ·exact .refl _
  ·exact ((zr fx fy q l).cons p).trans (.swap q p l)
theorem Oe {fx fy : Bool} {q : aj} : ∀ {l : List aj}, j2 fx fy l → q ∉ l → j2 fx fy (lU fx fy q l)
 | [], _, _ => by unfold lU j2; simp
 | p :: l, h, ax => by
  have al := ir.1 h;unfold lU
  split
  ·rename_i an;refine ir.2 ⟨fun r ap => ?_, h⟩;rcases gj.1 ap with rfl | ap
   ·exact an
   ·exact yf an (al.1 r ap)
  ·rename_i an;refine ir.2 ⟨fun r ap => ?_, Oe al.2 fun aK => ax (k5 _ aK)⟩;rcases gj.1 ((zr fx fy q l).mem_iff.1 ap) with rfl | ap
   ·rcases E3 (fx := fx) (fy := fy) (p := p) (q := r) (fun e => ax (by rw [e]; exact jd ..)) with aK | aK
    ·exact aK
    ·exact absurd aK an
   ·exact al.1 r ap
def rp (fx fy : Bool) (f : aj → Bool) (l : List aj) : List aj := l.foldl (fun out q => if f q then lU fx fy q out else out) []
theorem Ec (fx fy : Bool) (f : aj → Bool) (l : List aj) : (rp fx fy f l).Perm (l.filter f) := by
 have key : ∀ (l out : List aj), (l.foldl (fun out q => if f q then lU fx fy q out else out) out).Perm (out ++ l.filter f) := by
  intro l
  induction l with
  | nil => intro out; simp
  | cons q l bI =>
   intro out;rw [p5, List.filter_cons]
   by_cases an : f q = true
   ·rw [if_pos an, if_pos an];refine (bI _).trans ?_;refine ((zr fx fy q out).append_right _).trans ?_;exact List.perm_middle.symm
   ·rw [if_neg an, if_neg an]; exact bI out
 exact key l []
theorem ags (fx fy : Bool) (f : aj → Bool) (l : List aj) : (rp fx fy f l).length ≤ l.length := by
 rw [(Ec fx fy f l).length_eq]; exact List.length_filter_le _ _
theorem agq (fx fy : Bool) (f : aj → Bool) {l : List aj} (ax : l.Nodup) : j2 fx fy (rp fx fy f l) := by
 have key : ∀ (l out : List aj), j2 fx fy out → (out ++ l).Nodup → j2 fx fy (l.foldl (fun out q => if f q then lU fx fy q out else out) out) := by
  intro l
  induction l with
  | nil => intro out h _; exact h
  | cons q l bI =>
   intro out h hd;have hm := List.nodup_append.1 hd;have an : q ∉ out := fun fD => hm.2.2 q fD q (jd ..) rfl;rw [p5]
   by_cases au : f q = true
   ·rw [if_pos au];refine bI _ (Oe h an) ?_;have hp : (lU fx fy q out ++ l).Perm (out ++ q :: l) := ((zr fx fy q out).append_right l).trans List.perm_middle.symm;exact hp.nodup_iff.2 hd
   ·rw [if_neg au];refine bI _ h ?_;exact hd.sublist (List.Sublist.append_left (List.sublist_cons_self q l) out)
 exact key l [] List.Pairwise.nil (by simpa using ax)
theorem H0 (lt : aj → aj → Bool) : ∀ a b, (eU lt a b).Perm (a ++ b) := by
 intro a b
 induction a, b using eU.induct lt with
 | case1 b => simp [eU]
 | case2 x a => simp [eU]
 | case3 x a y b h bI =>
  rw [eU, if_pos h];exact (bI.cons y).trans List.perm_middle.symm
 | case4 x a y b h bI =>
  rw [eU, if_neg h];exact bI.cons x
theorem abB {fx fy : Bool} : ∀ a b, j2 fx fy a → j2 fx fy b → (a ++ b).Nodup → j2 fx fy (eU (dN fx fy) a b) := by
 intro a b
 induction a, b using eU.induct (dN fx fy) with
 | case1 b => intro _ h _; simpa [eU] using h
 | case2 x a => intro h _ _; simpa [eU] using h
 | case3 x a y b h bI =>
  intro aJ ab hd;rw [eU, if_pos h];have B7 := ir.1 ab;have eg := ir.1 aJ;have j8 : (x :: a ++ b).Nodup := hd.sublist (List.Sublist.append_left (List.sublist_cons_self y b) (x :: a));refine ir.2 ⟨fun r ap => ?_, bI aJ B7.2 j8⟩;rcases jS.1 ((H0 _ _ _).mem_iff.1 ap) with ap | ap
  ·rcases gj.1 ap with rfl | ap
   ·exact h
   ·exact yf h (eg.1 r ap)
  ·exact B7.1 r ap
 | case4 x a y b h bI =>
  intro aJ ab hd;rw [eU, if_neg h];have B7 := ir.1 ab;have eg := ir.1 aJ;have ie : x ≠ y := fun e => (List.nodup_append.1 hd).2.2 x (jd ..) y (jd ..) e;have bb : dN fx fy x y = true := (E3 ie).resolve_right h;have j8 : (a ++ y :: b).Nodup := (List.nodup_cons.1 hd).2;refine ir.2 ⟨fun r ap => ?_, bI eg.2 ab j8⟩;rcases jS.1 ((H0 _ _ _).mem_iff.1 ap) with ap | ap
  ·exact eg.1 r ap
  ·rcases gj.1 ap with rfl | ap
   ·exact bb
   ·exact yf bb (B7.1 r ap)
theorem An (lt : aj → aj → Bool) : ∀ (N : Nat) (l : List aj), l.length ≤ N → (iH lt l).Perm l
 | N, l, h => by
  by_cases q : l.length < 2
  ·rw [iH, dif_pos q]
  ·match N with
   | 0 => omega
   | N + 1 =>
    rw [iH, dif_neg q];refine (H0 lt _ _).trans ?_;refine ((An lt N _ (by simp; omega)).append (An lt N _ (by simp; omega))).trans ?_;rw [ju]
theorem Je {fx fy : Bool} : ∀ (N : Nat) (l : List aj), l.length ≤ N → l.Nodup → j2 fx fy (iH (dN fx fy) l)
 | N, l, h, hd => by
  by_cases q : l.length < 2
  ·rw [iH, dif_pos q]
   match l, q with
   | [], _ => exact .nil
   | [x], _ => unfold j2; simp
   | x :: y :: l, q => exact absurd q (by simp)
  ·match N with
   | 0 => omega
   | N + 1 =>
    rw [iH, dif_neg q];refine abB _ _ (Je N _ (by simp; omega) (hd.sublist (List.take_sublist _ _))) (Je N _ (by simp; omega) (hd.sublist (List.drop_sublist _ _))) ?_;have hp := (An (dN fx fy) N (l.take (l.length / 2)) (by simp; omega)).append (An (dN fx fy) N (l.drop (l.length / 2)) (by simp; omega));rw [ju] at hp;exact hp.nodup_iff.2 hd
theorem agy {fx fy : Bool} {f : aj → Bool} {l m : List aj} (ax : l.Nodup) (hp : m.Perm (l.filter f)) : iH (dN fx fy) m = rp fx fy f l :=
 KK (Je _ m (dE _) (hp.nodup_iff.2 (ax.sublist List.filter_sublist))) (agq fx fy f ax) ((An _ _ m (dE _)).trans (hp.trans (Ec fx fy f l).symm))
end Go.Proofs.YtbcecodakfejaaaGreat
namespace Go.Proofs.YtbcecodakfejaaaGreat
open Go.RowKit
def As (P : Program) (qC : TypeId) (agg : Bool) (n : Nat) : Bool := match kj P qC with
 | some (b, m) => Bool.beq b agg && Nat.beq m n
 | none => false
where Bool.beq : Bool → Bool → Bool
 | true, true => true
 | false, false => true
 | _, _ => false
def FY (P : Program) (ty i off : Nat) (agg : Bool) (n : Nat) : Bool := match P.underlying ty with
 | some (.struct bg) => match bg[i]? with
  | some f => Nat.beq f.offset off && As P f.type agg n
  | none => false
 | _ => false
def Hv (P : Program) (ty len : Nat) (agg : Bool) (n : Nat) : Bool := match P.underlying ty with
 | some (.array l e) => Nat.beq l len && As P e agg n && (match P.info? e with | some t => Nat.beq t.size n | none => false)
 | _ => false
class ED (P : Program) (ty i : Nat) (off : outParam Nat) (agg : outParam Bool) (n : outParam Nat) : Prop where
 h : FY P ty i off agg n = true
class JM (P : Program) (ty : Nat) (len : outParam Nat) (agg : outParam Bool) (n : outParam Nat) : Prop where
 h : Hv P ty len agg n = true
section
variable {P : Program}
theorem Sq {qC n : Nat} {agg : Bool} (h : As P qC agg n = true) : kj P qC = some (agg, n) := by
 unfold As at h
 split at h
 ·rename_i b m ab;rw [c5] at h;have e := hr h.2;have aP : b = agg := by cases b <;> cases agg <;> simp [As.Bool.beq] at h ⊢
  rw [ab, e, aP]
 ·cases h
theorem RU {qC n off : Nat} {cs : List Value} {v : Value} {W : World} (h : kj P qC = some (false, n)) (hv : cs[off]? = some v) : (part qC cs.toArray off).run P W = .ok v W := by
 unfold kj at h;cases hu : P.underlying qC with
 | none => rw [hu] at h; cases h
 | some D =>
  have h1 : (isAgg qC).run P W = .ok false W := by
   unfold isAgg;simp only [Sem.run_bind, run_underlying hu, Result.andThen_ok];cases hi : P.info? qC with
   | none => rw [hu, hi] at h; cases D <;> first | rfl | (cases h)
   | some eE => rw [hu, hi] at h; cases D <;> first | rfl | (cases h)
  unfold part;simp only [Sem.run_bind, h1, Result.andThen_ok, nz, if_false, List.getElem?_toArray, hv, Sem.run_pure]
variable {s : aC} {ops : Array Oper} {K : aC → Prop} {rest : List Oper} {ty : Nat} {pos : String} {after : Array Edge} {guard : Option (Nat × Bool)} {d : Nat}
theorem Xh {c6 i off n : Nat} {agg : Bool} (h : FY P c6 i off agg n = true) : ∃ bg f, P.underlying c6 = some (.struct bg) ∧ bg[i]? = some f ∧ f.offset = off ∧ kj P f.type = some (agg, n) := by
 unfold FY at h
 split at h
 ·rename_i bg hu
  split at h
  ·rename_i f au;rw [c5] at h;exact ⟨bg, f, hu, au, hr h.1, Sq h.2⟩
  ·cases h
 ·cases h
theorem Z4 {c6 len n : Nat} {agg : Bool} (h : Hv P c6 len agg n = true) : ∃ e t, P.underlying c6 = some (.array len e) ∧ P.info? e = some t ∧ t.size = n ∧ kj P e = some (agg, n) := by
 unfold Hv at h
 split at h
 ·rename_i l e hu;simp only [c5] at h;obtain ⟨⟨h1, h2⟩, ao⟩ := h
  split at ao
  ·rename_i t aB;exact ⟨e, t, by rw [hu, hr h1], aB, hr ao, Sq h2⟩
  ·cases ao
 ·cases h
theorem UG {x : Operand} {c6 i off n : Nat} {xs : List AC} {y : AC} [F : ED P c6 i off false n] (hw : want ops ⟨some d, .field c6 x i, ty, pos, after, guard⟩ s = some true) (aa : s.look x = some (.w (.agg xs))) (al : xs[off]? = some y) (hd : Nat.blt d s.n = true) (h : bc P ops K rest (s.put (some d) (.w (.one y)))) : bc P ops K (⟨some d, .field c6 x i, ty, pos, after, guard⟩ :: rest) s := by
 refine fS hw ⟨fun _ _ h => (by cases h), fun z aN => ?_, fun U ad W env he => ?_, fun j ae => ⟨x, by simp [Op.operands], _, aa, ?_⟩⟩ hd h
 ·simp [Op.operands] at aN;subst aN;exact ⟨_, aa⟩
 ·obtain ⟨vs, aF, ak⟩ := he x (by simp [Op.operands]) _ aa;obtain ⟨bg, f, hu, au, aA, cB⟩ := Xh F.h;have bb : off < vs.length := by rw [← ak.1]; exact (bA.1 al).1
  refine ⟨vs[off], ?_, ak.2 off y _ al (bJ bb)⟩;simp only [execOp, Instr.field, aF, Sem.run_bind, run_underlying hu, Result.andThen_ok, au, asAgg, Sem.run_pure, aA, RU cB (bJ bb)]
 ·obtain ⟨z, aN, zo⟩ := ae;simp [bx.cells] at aN;subst aN;exact ⟨z, cV al, zo⟩
theorem UM {x y : Operand} {c6 len n : Nat} {gV : IntKind} {i : Int} {xs : List AC} {z : AC} [A : JM P c6 len false n] (hw : want ops ⟨some d, .index c6 x y, ty, pos, after, guard⟩ s = some true) (aa : s.look x = some (.w (.agg xs))) (ai : s.look y = some (aQ (.int gV i))) (az : 0 ≤ i) (h1 : i < len) (al : xs[i.toNat * n]? = some z) (hd : Nat.blt d s.n = true) (h : bc P ops K rest (s.put (some d) (.w (.one z)))) : bc P ops K (⟨some d, .index c6 x y, ty, pos, after, guard⟩ :: rest) s := by
 refine fS hw ⟨fun _ _ h => (by cases h), fun z aN => ?_, fun U ad W env he => ?_, fun j ae => ⟨x, by simp [Op.operands], _, aa, ?_⟩⟩ hd h
 ·simp [Op.operands] at aN;rcases aN with rfl | rfl
  ·exact ⟨_, aa⟩
  ·exact ⟨_, ai⟩
 ·obtain ⟨vs, aF, ak⟩ := he x (by simp [Op.operands]) _ aa;have hi : env y = .int gV i := (he y (by simp [Op.operands]) _ ai).1;obtain ⟨e, t, hu, aB, hs, cB⟩ := Z4 A.h;have bb : i.toNat * n < vs.length := by rw [← ak.1]; exact (bA.1 al).1
  refine ⟨vs[i.toNat * n], ?_, ak.2 _ z _ al (bJ bb)⟩;simp only [execOp, Instr.index, aF, hi, asIntOf, Sem.run_bind, Sem.run_pure, Result.andThen_ok, run_underlying hu, if_pos (And.intro az h1), hK aB, hs, RU cB (bJ bb)]
 ·obtain ⟨u, hu, Zz⟩ := ae;simp [bx.cells] at hu;subst hu;exact ⟨u, cV al, Zz⟩
theorem UA {c6 dK : Nat} {x y : Operand} {a b : Bool} (hw : want ops ⟨some d, .binOp .eql c6 x y dK, ty, pos, after, guard⟩ s = some true) (aa : s.look x = some (bk a)) (ai : s.look y = some (bk b)) (hd : Nat.blt d s.n = true) (hu : P.underlying c6 = some .bool) (h : bc P ops K rest (s.put (some d) (bk (a == b)))) : bc P ops K (⟨some d, .binOp .eql c6 x y dK, ty, pos, after, guard⟩ :: rest) s :=
 sT hw aa ai rfl rfl (fun W => rfl) (fun W => run_eql_bool W c6 a b hu) rfl hd h
end
theorem QL {P : Program} {f : FuncId} {args rB : List ah} {r : ah} (h : aH P f args r) (jC : rB.all ah.aY = true) (ak : rB.length = args.length) (hle : ∀ (i : Nat) x y, rB[i]? = some x → args[i]? = some y → x.aS y) : aH P f rB r :=
 ⟨fun x aa => ah.dq (b6.1 jC x aa), h.b0, fun U W vs cK => h.call U W vs ⟨by rw [← ak]; exact cK.1, fun i y v ai hv => by
  have hi : i < rB.length := by rw [ak]; exact (bA.1 ai).1
  exact hle i _ y (bJ hi) ai U id W v (cK.2 i _ v (bJ hi) hv)⟩⟩
abbrev Jq : ah := aQ (.slice none 0 0)
theorem nil_le (z : Nat) : Jq.aS (cM z 0 []) := fun U ad W v h => by
 obtain ⟨rfl, _⟩ := h;exact ⟨⟨none, 0, rfl, dE _, by simp, fun h => absurd h (Nat.lt_irrefl _)⟩, fun b ⟨c, a, q, ax, _⟩ => absurd ax (Nat.lt_irrefl _)⟩
end Go.Proofs.YtbcecodakfejaaaGreat
