/-
  My own texts, without what this claim does not need. My own text.
-/
import Derived.Laws.Slices
import Derived.Test.YtpochbhajmbfdaaGreatSRunsK4
set_option maxRecDepth 100000
set_option maxHeartbeats 64000000
set_option linter.unusedVariables false
set_option linter.unusedSimpArgs false
set_option linter.unusedSectionVars false
namespace Go.Proofs.YtpochbhajmbfdaaGreat
open Go.RowKit
abbrev Mem := Nat → Option (List AC)
def cg : Mem := fun _ => none
def eu (ad : Nat → Nat) (m : Mem) (R : aJ) (b : Nat) : Prop := (∃ k cs, m k = some cs ∧ ad k = b) ∨ ∃ i r, R i = some r ∧ r.own b
structure fk (U : Nat → Prop) (ad : Nat → Nat) (W : World) (m : Mem) (R : aJ) : Prop where
  dG : ∀ k cs, m k = some cs → ∃ (vs : List Value) (ty : TypeId), W.heap[ad k]? = some (.cells vs.toArray ty (0, 0)) ∧ bZ U ad W cs vs ∧ ¬ U (ad k)
  fT : ∀ k cs x j, m k = some cs → x ∈ cs → x.owns j → ∃ ar, m j = some ar
  inj : ∀ k k' cs ar, m k = some cs → m k' = some ar → ad k = ad k' → k = k'
  rows : ∀ i r, R i = some r → r.ok U ad W ∧ (∀ y ∈ r.aU, y.ba = true) ∧ ∀ g, r.own g → ¬ U g ∧ ∀ k cs, m k = some cs → ad k ≠ g
  apart : ∀ i j r q, R i = some r → R j = some q → i ≠ j → ∀ g, r.own g → ¬ q.own g
def HB (ad : Nat → Nat) (W : World) (m : Mem) (R : aJ) : ff := ⟨W, fun b => b < W.heap.size ∧ ¬ eu ad m R b, fun _ h => h.1, fun _ => none, []⟩
def b5 {α : Type} (f g : Nat → Option α) : Nat → Option α := fun j => match f j with
  | some x => some x
  | none => g j
theorem j7 {α : Type} {f g : Nat → Option α} {j : Nat} {x : α} (h : b5 f g j = some x) : f j = some x ∨ (f j = none ∧ g j = some x) := by (try (unfold b5 at *)); grind
theorem gv {α : Type} {f g : Nat → Option α} {j : Nat} {x : α} (h : f j = some x) : b5 f g j = some x := by unfold b5; rw [h]
theorem gw {α : Type} {f g : Nat → Option α} {j : Nat} (h : f j = none) : b5 f g j = g j := by unfold b5; rw [h]
structure dt (P : Program) (f : FuncId) (args : List ai) (m0 : Mem) (R0 : aJ) (Post : ai → Mem → aJ → Prop) : Prop where
  call : ∀ (U : Nat → Prop) (ad : Nat → Nat) (W : World) (vs : List Value), fk U ad W m0 R0 → (∀ x ∈ args, ∀ j, x.owns j → ∃ cs, m0 j = some cs) → ko U ad W args vs →
    Calls P f vs.toArray W fun e bq => ∃ v r aH aB bf cM, e = .returned v ∧ Post r aH aB ∧ fk cM bf bq aH aB ∧ di cM bf bq r v ∧ (∀ j, r.owns j → ∃ cs, aH j = some cs) ∧
      (∀ k cs, m0 k = some cs → bf k = ad k ∧ ∃ ar, aH k = some ar) ∧ (∀ i r, R0 i = some r → ∃ a8, aB i = some a8) ∧
      (∀ b, cM b → U b ∨ W.heap.size ≤ b ∨ eu ad m0 R0 b) ∧ (∀ b, eu bf aH aB b → eu ad m0 R0 b ∨ W.heap.size ≤ b) ∧ kh (HB ad W m0 R0) bq
section
variable {P : Program} {B bp : ff} {A bU : Nat → Prop} {s : aC} {ad : Nat → Nat} {a : Act} {w : World} {o : Oper} {R : aJ} {Q : Exit → Act → World → Prop}
theorem pt.UX {U : Nat → Prop} {v : Value} {fn : Fn} {cs : List AC} (h : gI U ad w (.p (pt fn cs)) v) : ∃ vs : List Value, v = .func fn #[] vs.toArray ∧ ∀ bf, bZ U bf w cs vs := by
  obtain ⟨⟨vs, rfl, ao, ak⟩, au⟩ := h;refine ⟨vs, rfl, fun bf => ⟨ao.1, fun i x u aa hu => ?_⟩⟩;have h := ao.2 i x u aa hu;cases x with
  | c y => exact h
  | own k o => exact absurd rfl (ak _ (dJ aa) k)
  | p R => exact ⟨h.1, fun b ab => au b ⟨vs, rfl, i, _, u, aa, hu, ab⟩⟩
theorem tf.run {f : FuncId} {args : List ai} (ak : tf P s.look o f args) (aA : Rel B A s ad a w) : ∃ us : List Value, ko (s.free A ad) ad w args us ∧ (execOp a.eval o).run P w = .ok (.enter f us.toArray) w := by
  obtain ⟨⟨c, g, az, zf, a6⟩, zj⟩ := ak;rcases a6 with ⟨bs, aw, oJ, xi⟩ | ⟨cs, aw, oJ⟩
  · have kR : a.eval g = .func (.func f) bs.toArray #[] := (aA.look aw).1
    refine ⟨bs ++ c.args.toList.map a.eval, ?_, ?_⟩
    · refine ⟨by have := congrArg List.length oJ; simpa using this.symm, fun i x v aa hv => ?_⟩
      have h1 : (bs.map (fun b => some (xK b)) ++ c.args.toList.map s.look)[i]? = some (some x) := by rw [oJ, eJ, aa]; rfl
      rcases jn i bs.length with bj | lI
      · rw [gG (by simpa using bj), eJ] at h1
        rw [gG bj] at hv;rw [hv] at h1;simp only [hD, ib] at h1;subst h1;exact QP (cC.1 xi v (dJ hv))
      · rw [gH (by simpa using lI), eJ] at h1
        rw [gH lI, eJ] at hv;simp only [mZ] at h1;cases ag : c.args.toList[i - bs.length]? with
        | none => rw [ag] at hv; cases hv
        | some y =>
          rw [ag] at h1 hv;simp only [hD, ib] at h1 hv;subst hv;exact aA.look h1
    · have e : bs.toArray ++ c.args.map a.eval ++ #[] = (bs ++ c.args.toList.map a.eval).toArray := by
        rw [Array.append_empty];apply Array.ext';simp
      simp only [execOp, az, resolve, zf, Deferred.ofValue, kR];simp only [Sem.run_bind, Sem.run_pure, Result.andThen_ok, invoke];rw [e];exact Cy zj
  · obtain ⟨vs, kR, cW⟩ := pt.UX (ad := ad) (aA.look aw)
    refine ⟨c.args.toList.map a.eval ++ vs, ?_, ?_⟩
    · refine ⟨by have := congrArg List.length oJ; have h2 := (cW ad).1; simp at this ⊢; omega, fun i x v aa hv => ?_⟩
      have h1 : (c.args.toList.map s.look ++ cs.map (fun x => some (.w (.one x))))[i]? = some (some x) := by rw [oJ, eJ, aa]; rfl
      rcases jn i c.args.toList.length with bj | lI
      · rw [gG (by simpa using bj), eJ] at h1
        rw [gG (by simpa using bj), eJ] at hv;cases ag : c.args.toList[i]? with
        | none => rw [ag] at hv; cases hv
        | some y =>
          rw [ag] at h1 hv;simp only [hD, ib] at h1 hv;subst hv;exact aA.look h1
      · rw [gH (by simpa using lI), eJ] at h1
        rw [gH (by simpa using lI)] at hv;simp only [mZ] at h1 hv;cases ag : cs[i - c.args.toList.length]? with
        | none => rw [ag] at h1; cases h1
        | some y =>
          rw [ag] at h1;simp only [hD, ib] at h1;subst h1;exact (cW ad).2 _ y v ag hv
    · have e : (#[] : Array Value) ++ c.args.map a.eval ++ vs.toArray = (c.args.toList.map a.eval ++ vs).toArray := by
        apply Array.ext';simp
      simp only [execOp, az, resolve, zf, Deferred.ofValue, kR];simp only [Sem.run_bind, Sem.run_pure, Result.andThen_ok, invoke];rw [e];exact Cy zj
theorem eL.part (aA : eL bp bU R s a w A ad) {m0 : Mem} {R0 : aJ} (hm : ∀ k cs, m0 k = some cs → s.mem k = some cs) (ap : bH R0 R) (fT : ∀ k cs x j, m0 k = some cs → x ∈ cs → x.owns j → ∃ ar, m0 j = some ar) : fk (s.free A ad) ad w m0 R0 := by
  refine ⟨fun k cs af => ?_, fT, fun k k' cs ar af e0 e => aA.rel.inj k k' cs ar (hm k cs af) (hm k' ar e0) e, fun i r hi => ?_, fun i j r q hi ae => aA.apart i j r q (ap i r hi) (ap j q ae)⟩
  · obtain ⟨vs, ty, h1, h2, _⟩ := aA.rel.dG k cs (hm k cs af)
    exact ⟨vs, ty, h1, h2, fun h => h.2 k cs (hm k cs af) rfl⟩
  · obtain ⟨h1, h2, aq⟩ := aA.rows i r (ap i r hi)
    exact ⟨h1, h2, fun g aw => ⟨fun h => (aq g aw).1 h.1, fun k cs af => (aq g aw).2 k cs (hm k cs af)⟩⟩
theorem eL.YK (aA : eL bp bU R s a w A ad) {m0 : Mem} {R0 : aJ} (hm : ∀ k cs, m0 k = some cs → s.mem k = some cs) (ap : bH R0 R) {b : Nat} (h : eu ad m0 R0 b) : b < w.heap.size := by
  rcases h with ⟨k, cs, af, rfl⟩ | ⟨i, r, hi, aw⟩
  · exact aA.rel.lt (hm k cs af)
  · exact (aA.rows i r (ap i r hi)).ok.lt aw
def aC.over (s : aC) (aH : Mem) : aC := { s with mem := b5 aH s.mem }
theorem eL.called (aA : eL bp bU R s a w A ad) (ok : s.cV) {m0 aH : Mem} {R0 aB : aJ} {bf : Nat → Nat} {cM : Nat → Prop} {w' : World} (hm : ∀ k cs, m0 k = some cs → s.mem k = some cs) (ap : bH R0 R)
    (cS : fk cM bf w' aH aB) (bC : ∀ k cs, m0 k = some cs → bf k = ad k ∧ ∃ ar, aH k = some ar) (cf : ∀ i r, R0 i = some r → ∃ a8, aB i = some a8) (f1 : ∀ k ar, aH k = some ar → (∃ cs, m0 k = some cs) ∨ s.mem k = none) (fn : ∀ k ar, aH k = some ar → s.mem k = none → k < s.n)
    (cP : ∀ b, cM b → s.free A ad b ∨ w.heap.size ≤ b ∨ eu ad m0 R0 b) (cw : ∀ b, eu bf aH aB b → eu ad m0 R0 b ∨ w.heap.size ≤ b) (ab : kh (HB ad w m0 R0) w') :
    eL bp bU (b5 aB R) (s.over aH) a w' (fun b => (s.free A ad b ∧ b < w.heap.size) ∨ cM b ∨ w'.heap.size ≤ b) (fun k => match aH k with | some _ => bf k | none => ad k) ∧
      (∀ b, cM b → (s.over aH).free (fun b => (s.free A ad b ∧ b < w.heap.size) ∨ cM b ∨ w'.heap.size ≤ b) (fun k => match aH k with | some _ => bf k | none => ad k) b) ∧ (s.over aH).cV := by
  have bj : ∀ b, eu ad m0 R0 b → b < w.heap.size := fun b h => aA.YK hm ap h
  have jC : ∀ k, (∃ cs, s.mem k = some cs) → (match aH k with | some _ => bf k | none => ad k) = ad k := by
    rintro k ⟨cs, af⟩;cases gl : aH k with
    | none => rfl
    | some ar =>
      rcases f1 k ar gl with ⟨vd, aI⟩ | aI
      · exact (bC k vd aI).1
      · rw [aI] at af; cases af
  have Zn : ∀ k ar, aH k = some ar → (match aH k with | some _ => bf k | none => ad k) = bf k := fun k ar h => by rw [h]
  have ss : ∀ b, s.free A ad b → ¬ eu ad m0 R0 b := by
    rintro b au (⟨k, cs, af, rfl⟩ | ⟨i, r, hi, aw⟩)
    · exact au.2 k cs (hm k cs af) rfl
    · exact ((aA.rows i r (ap i r hi)).own b aw).1 au.1
  have vu : ∀ b, b < w.heap.size → ¬ eu ad m0 R0 b → w'.heap[b]? = w.heap[b]? := fun b h1 h2 => ab.block b ⟨h1, h2⟩;have b0 : w.heap.size ≤ w'.heap.size := ab.size
  have Dc : ∀ b, eu bf aH aB b → b < w'.heap.size := by
    rintro b (⟨k, cs, af, rfl⟩ | ⟨i, r, hi, aw⟩)
    · obtain ⟨vs, ty, h1, _⟩ := cS.dG k cs af
      exact (ln.1 h1).1
    · exact (cS.rows i r hi).1.lt aw
 
  have Af : ∀ k cs, aH k = none → s.mem k = some cs → ¬ eu ad m0 R0 (ad k) := by
    rintro k cs aE af (⟨j, vd, ae, e⟩ | ⟨i, r, hi, aw⟩)
    · have bz : j = k := aA.rel.inj j k _ _ (hm j vd ae) af e
      subst bz;obtain ⟨_, ar, h⟩ := bC j vd ae;rw [aE] at h; cases h
    · exact ((aA.rows i r (ap i r hi)).own _ aw).2 k cs af rfl
  have AH : ∀ i r, aB i = none → R i = some r → ∀ g, r.own g → ¬ eu ad m0 R0 g := by
    rintro i r aE hi g aw (⟨j, vd, ae, e⟩ | ⟨fN, a8, dq, eN⟩)
    · exact ((aA.rows i r hi).own _ aw).2 j vd (hm j vd ae) e
    · by_cases e : i = fN
      · subst e
        obtain ⟨q, h⟩ := cf i a8 dq;rw [aE] at h; cases h
      · exact aA.apart i fN r a8 hi (ap fN a8 dq) e g aw eN
  have xU : ∀ i r, R i = some r → ∀ g, r.own g → g < w.heap.size := fun i r hi g aw => (aA.rows i r hi).ok.lt aw
  have G4 : ∀ b, cM b → ¬ eu bf aH aB b := by
    rintro b hu (⟨k, cs, af, rfl⟩ | ⟨i, r, hi, aw⟩)
    · obtain ⟨_, _, _, _, h⟩ := cS.dG k cs af; exact h hu
    · exact ((cS.rows i r hi).2.2 b aw).1 hu
  have GF : ∀ b, s.free A ad b → b < w.heap.size → (s.over aH).free (fun b => (s.free A ad b ∧ b < w.heap.size) ∨ cM b ∨ w'.heap.size ≤ b) (fun k => match aH k with | some _ => bf k | none => ad k) b := by
    intro b au ao;refine ⟨.inl ⟨au, ao⟩, fun k cs af => ?_⟩;rcases j7 (show b5 aH s.mem k = some cs from af) with h | ⟨h, aF⟩
    · simp only [h]
      intro e;rcases cw b (.inl ⟨k, cs, h, e⟩) with q | q
      · exact ss b au q
      · omega
    · simp only [h]; exact au.2 k cs aF
  have GG : ∀ b, cM b → (s.over aH).free (fun b => (s.free A ad b ∧ b < w.heap.size) ∨ cM b ∨ w'.heap.size ≤ b) (fun k => match aH k with | some _ => bf k | none => ad k) b := by
    intro b hu;refine ⟨.inr (.inl hu), fun k cs af => ?_⟩;rcases j7 (show b5 aH s.mem k = some cs from af) with h | ⟨h, aF⟩
    · simp only [h]
      intro e;exact G4 b hu (.inl ⟨k, cs, h, e⟩)
    · simp only [h]
      intro e;subst e;rcases cP _ hu with q | q | q
      · exact q.2 k cs aF rfl
      · have := aA.rel.lt aF; omega
      · exact Af k cs h aF q
  have dD : (s.over aH).cV := by
    have zX : ∀ j, (∃ cs, s.mem j = some cs) → ∃ cs, (s.over aH).mem j = some cs := by
      rintro j ⟨cs, h⟩;show ∃ cs, b5 aH s.mem j = some cs;cases gl : aH j with
      | some c => exact ⟨c, gv gl⟩
      | none => exact ⟨cs, by rw [gw gl]; exact h⟩
    refine ⟨fun t av j aD ae => zX j (ok.hh t av j aD ae), fun k cs x j af aa ae => ?_⟩;rcases j7 (show b5 aH s.mem k = some cs from af) with h | ⟨h, aF⟩
    · obtain ⟨c, ak⟩ := cS.fT k cs x j h aa ae
      exact ⟨c, gv ak⟩
    · exact zX j (ok.dG k cs x j aF aa ae)
  have abd : ∀ k cs, m0 k = some cs → eu bf aH aB (ad k) := fun k cs af => by
    obtain ⟨e, ar, h⟩ := bC k cs af;exact .inl ⟨k, ar, h, e⟩
  have M7 : ∀ b, eu ad m0 R0 b → ¬ bp.F b := by
    rintro b (⟨k, cs, af, rfl⟩ | ⟨i, r, hi, aw⟩)
    · exact aA.o3 k cs (hm k cs af)
    · exact (aA.hot i r b (ap i r hi) aw).1
  have O2 : ∀ b, w.heap.size ≤ b → ¬ bp.F b := fun b h au => by have := bp.lt b au; have := aA.below.size; omega
  refine ⟨⟨aA.up, ?_, ?_, fun k cs af au => ?_, ⟨ab.os.trans aA.below.os, ab.tape.trans aA.below.tape, ab.output.trans aA.below.output, lT aA.below.size ab.size, fun b au => ?_⟩, fun i r hi => ?_, fun i j r q hi ae gL g aw => ?_, fun i r g hi aw => ?_, fun k b af => ?_⟩, GG, dD⟩
  · rintro b (h | h | h)
    · exact aA.sub b h.1.1
    · rcases cP b h with q | q | ⟨k, cs, af, rfl⟩ | ⟨i, r, hi, aw⟩
      · exact aA.sub b q.1
      · exact aA.up b (lT aA.below.size q)
      · exact absurd (abd k cs af) (G4 _ h)
      · exact (aA.hot i r b (ap i r hi) aw).2
    · exact aA.up b (by have := aA.below.size; omega)
  · refine ⟨aA.rel.qb, aA.rel.size, fun t av aD => ?_, fun k cs af => ?_, fun k k' cs ar af e0 e => ?_, kh.refl _, fun b h => .inr (.inr h), xb _ _ _⟩
    · obtain ⟨v, h1, h2⟩ := aA.rel.hh t av aD
      exact ⟨v, h1, h2.map (fun b au ao => ⟨GF b au ao, vu b ao (ss b au)⟩) fun j ae => jC j (ok.hh t av j aD ae)⟩
    · rcases j7 (show b5 aH s.mem k = some cs from af) with h | ⟨h, aF⟩
      · obtain ⟨vs, ty, h1, h2, _⟩ := cS.dG k cs h
        refine ⟨vs, ty, by simp only [h]; exact h1, h2.map (fun b hu _ => ⟨GG b hu, rfl⟩) fun j x aa ae => ?_, fun au => au.2 k cs af rfl⟩;obtain ⟨c, ak⟩ := cS.fT k cs x j h aa ae;exact Zn j c ak
      · obtain ⟨vs, ty, h1, h2, _⟩ := aA.rel.dG k cs aF
        refine ⟨vs, ty, by simp only [h]; rw [vu _ (aA.rel.lt aF) (Af k cs h aF)]; exact h1, h2.map (fun b au ao => ⟨GF b au ao, vu b ao (ss b au)⟩) fun j x aa ae => jC j (ok.dG k cs x j aF aa ae), fun au => au.2 k cs af rfl⟩
    · rcases j7 (show b5 aH s.mem k = some cs from af) with h | ⟨h, aF⟩
      · rcases j7 (show b5 aH s.mem k' = some ar from e0) with g | ⟨g, jx⟩
        · simp only [h, g] at e
          exact cS.inj k k' cs ar h g e
        · simp only [h, g] at e
          rcases cw _ (.inl ⟨k, cs, h, e⟩) with q | q
          · exact absurd q (Af k' ar g jx)
          · have := aA.rel.lt jx; omega
      · rcases j7 (show b5 aH s.mem k' = some ar from e0) with g | ⟨g, jx⟩
        · simp only [h, g] at e
          rcases cw _ (.inl ⟨k', ar, g, e.symm⟩) with q | q
          · exact absurd q (Af k cs h aF)
          · have := aA.rel.lt aF; omega
        · simp only [h, g] at e
          exact aA.rel.inj k k' cs ar aF jx e
  · rcases j7 (show b5 aH s.mem k = some cs from af) with h | ⟨h, aF⟩
    · simp only [h] at au
      rcases cw _ (.inl ⟨k, cs, h, rfl⟩) with q | q
      · exact M7 _ q au
      · exact O2 _ q au
    · simp only [h] at au
      exact aA.o3 k cs aF au
  · exact (vu b (uI (bp.lt b au) aA.below.size) fun h => M7 b h au).trans (aA.below.block b au)
  · rcases j7 hi with h | ⟨h, aF⟩
    · obtain ⟨lK, ak, aw⟩ := cS.rows i r h
      refine ⟨lK.kept ak (fun _ _ => rfl) (dU _) (fun b hu _ => ⟨GG b hu, rfl⟩), ak, fun g q => ?_⟩;have a6 : eu bf aH aB g := .inr ⟨i, r, h, q⟩;refine ⟨?_, fun k cs af => ?_⟩
      · rintro (z | z | z)
        · rcases cw g a6 with y | y
          · exact ss g z.1 y
          · omega
        · exact G4 g z a6
        · have := Dc g a6; omega
      · rcases j7 (show b5 aH s.mem k = some cs from af) with y | ⟨y, y'⟩
        · simp only [y]; exact (aw g q).2 k cs y
        · simp only [y]
          intro e;subst e;rcases cw _ a6 with z | z
          · exact Af k cs y y' z
          · have := aA.rel.lt y'; omega
    · obtain ⟨lK, ak, aw⟩ := aA.rows i r aF
      refine ⟨lK.kept ak (fun g q => vu g (xU i r aF g q) (AH i r h aF g q)) b0 (fun b au du => ⟨GF b au du, vu b du (ss b au)⟩), ak, fun g q => ⟨?_, fun k cs af => ?_⟩⟩
      · rintro (z | z | z)
        · exact (aw g q).1 z.1.1
        · rcases cP g z with y | y | y
          · exact (aw g q).1 y.1
          · have := xU i r aF g q; omega
          · exact AH i r h aF g q y
        · have := xU i r aF g q; omega
      · rcases j7 (show b5 aH s.mem k = some cs from af) with y | ⟨y, y'⟩
        · simp only [y]
          intro e;rcases cw g (.inl ⟨k, cs, y, e⟩) with z | z
          · exact AH i r h aF g q z
          · have := xU i r aF g q; omega
        · simp only [y]; exact (aw g q).2 k cs y'
  · rcases j7 hi with h | ⟨h, aF⟩
    · rcases j7 ae with y | ⟨y, y'⟩
      · exact cS.apart i j r q h y gL g aw
      · intro al
        rcases cw g (.inr ⟨i, r, h, aw⟩) with z | z
        · exact AH j q y y' g al z
        · have := xU j q y' g al; omega
    · rcases j7 ae with y | ⟨y, y'⟩
      · intro al
        rcases cw g (.inr ⟨j, q, y, al⟩) with z | z
        · exact AH i r h aF g aw z
        · have := xU i r aF g aw; omega
      · exact aA.apart i j r q aF y' gL g aw
  · rcases j7 hi with h | ⟨h, aF⟩
    · rcases cw g (.inr ⟨i, r, h, aw⟩) with (⟨k, cs, af, e⟩ | ⟨j, q, ae, al⟩) | z
      · obtain ⟨bz, ar, aI⟩ := bC k cs af
        exact absurd (bz.trans e) (((cS.rows i r h).2.2 g aw).2 k ar aI)
      · exact aA.hot j q g (ap j q ae) al
      · exact ⟨O2 g z, aA.up g (by have := aA.below.size; omega)⟩
    · exact aA.hot i r g aF aw
  · obtain ⟨h1, h2⟩ := aA.kp k b af
    refine ⟨h1, ?_⟩;cases gl : aH k with
    | none => exact h2
    | some c =>
      rcases f1 k c gl with ⟨cs, aI⟩ | aI
      · exact (bC k cs aI).1.trans h2
      · exact absurd (fn k c gl aI) (Nat.not_lt.2 h1)
structure uW (P : Program) (T : Nat → Bool) (R : aJ) (s : aC) (o : Oper) (K : aJ → aC → Prop) : Prop where
  ex : ∃ f args m0 R0 Post, tf P s.look o f args ∧ dt P f args m0 R0 Post ∧ (∀ x ∈ args, ∀ j, x.owns j → ∃ cs, m0 j = some cs) ∧ (∀ k cs, m0 k = some cs → s.mem k = some cs ∧ (T k = true ∨ ∀ r aH aB, Post r aH aB → aH k = some cs)) ∧ bH R0 R ∧ (∀ k cs x j, m0 k = some cs → x ∈ cs → x.owns j → ∃ ar, m0 j = some ar) ∧
    ∀ r aH aB, Post r aH aB → (∀ j, r.owns j → ∃ cs, aH j = some cs) → (∀ k cs x j, aH k = some cs → x ∈ cs → x.owns j → ∃ ar, aH j = some ar) → (∀ k cs, m0 k = some cs → ∃ ar, aH k = some ar) →
      (∀ k ar, aH k = some ar → (∃ cs, m0 k = some cs) ∨ (s.mem k = none ∧ k < s.n)) ∧ K (b5 aB R) ((s.over aH).put o.dst r)
theorem aC.cV.ack {aH : Mem} (ok : s.cV) (fT : ∀ k cs x j, aH k = some cs → x ∈ cs → x.owns j → ∃ ar, aH j = some ar) : (s.over aH).cV := by
  have zX : ∀ j, (∃ cs, s.mem j = some cs) → ∃ cs, (s.over aH).mem j = some cs := by
    rintro j ⟨cs, h⟩;show ∃ cs, b5 aH s.mem j = some cs;cases gl : aH j with
    | some c => exact ⟨c, gv gl⟩
    | none => exact ⟨cs, by rw [gw gl]; exact h⟩
  refine ⟨fun t av j aD ae => zX j (ok.hh t av j aD ae), fun k cs x j af aa ae => ?_⟩;rcases j7 (show b5 aH s.mem k = some cs from af) with h | ⟨h, aF⟩
  · obtain ⟨c, ak⟩ := fT k cs x j h aa ae
    exact ⟨c, gv ak⟩
  · exact zX j (ok.dG k cs x j aF aa ae)
theorem aC.cV.IP {aH : Mem} {r : ai} (ok : s.cV) (fT : ∀ k cs x j, aH k = some cs → x ∈ cs → x.owns j → ∃ ar, aH j = some ar) (jf : ∀ j, r.owns j → ∃ cs, aH j = some cs) (dst : Option Nat) : ((s.over aH).put dst r).cV :=
  (ok.ack fT).put fun j ae => by
    obtain ⟨c, ak⟩ := jf j ae;exact ⟨c, gv ak⟩
theorem uW.mono {K iY : aJ → aC → Prop} (ok : s.cV) {T : Nat → Bool} (h : uW P T R s o K) (ef : ∀ R s, s.cV → K R s → iY R s) : uW P T R s o iY := by
  obtain ⟨f, args, m0, R0, Post, ak, hp, az, hm, ap, fT, af⟩ := h.ex;refine ⟨f, args, m0, R0, Post, ak, hp, az, hm, ap, fT, fun r aH aB h1 h2 aq aK => ?_⟩;obtain ⟨f1, k⟩ := af r aH aB h1 h2 aq aK;exact ⟨f1, ef _ _ (ok.IP aq h2 _) k⟩
theorem uW.sound {K : aJ → aC → Prop} {T : Nat → Bool} (h : uW P T R s o K) (hd : ∀ d, o.dst = some d → d < s.n) (aA : eL bp bU R s a w A ad) (ok : s.cV) {iY : Act → World → Prop} (ef : ∀ aB s' a' w', s'.cV → pw bp bU aB s' a' w' → K aB s' → iY a' w') : o.wp P a w iY Q := by
  obtain ⟨f, args, m0, R0, Post, ak, hp, az, gl, ap, fT, af⟩ := h.ex;have hm : ∀ k cs, m0 k = some cs → s.mem k = some cs := fun k cs h => (gl k cs h).1;obtain ⟨us, dT, gu⟩ := ak.run aA.rel;unfold Oper.wp;rw [gu];refine (hp.call (s.free A ad) ad w us (aA.part hm ap fT) az dT).mono ?_;rintro e w' ⟨v, r, aH, aB, bf, cM, rfl, jZ, cS, hv, jf, bC, cf, cP, cw, ab⟩;obtain ⟨f1, e0⟩ := af r aH aB jZ jf cS.fT fun k cs h => (bC k cs h).2
  obtain ⟨cE, dI, dN⟩ := aA.called ok hm ap cS bC cf (fun k c h => (f1 k c h).imp id And.left) (fun k c h aI => by
    rcases f1 k c h with ⟨cs, q⟩ | q
    · rw [hm k cs q] at aI; cases aI
    · exact q.2) cP cw ab
  have b8 : di ((s.over aH).free (fun b => (s.free A ad b ∧ b < w.heap.size) ∨ cM b ∨ w'.heap.size ≤ b) (fun k => match aH k with | some _ => bf k | none => ad k)) (fun k => match aH k with | some _ => bf k | none => ad k) w' r v :=
    hv.map (fun b hu _ => ⟨dI b hu, rfl⟩) fun j ae => by
      obtain ⟨c, ak⟩ := jf j ae;simp only [ak]
  refine ef _ _ _ _ (dN.put fun j ae => ?_) ⟨_, _, cE.put (fun d' e => hd d' e) b8⟩ e0;obtain ⟨c, ak⟩ := jf j ae;exact ⟨c, gv ak⟩
end
def wK (o : Oper) : Bool := match o.op with
  | .call ⟨.builtin .append, _, _⟩ => true
  | .call ⟨.builtin .copy, _, _⟩ => true
  | _ => false
def vz (o : Oper) : Bool := match o.op with
  | .call ⟨.builtin .append, _, _⟩ => true
  | .call ⟨.builtin .copy, _, _⟩ => true
  | .buildSlice .. => true
  | .makeSlice .. => true
  | _ => false
def US (o : Oper) : Bool := match o.op with
  | .call ⟨.value _, _, _⟩ => true
  | _ => false
def afw (o : Oper) : Bool := match o.op with
  | .store .. => true
  | _ => false
def dW (dr : Option (List Nat)) (o : Oper) : Bool := (US o && match dr with
  | none => true
  | some hs => hs.contains (o.dst.getD 1000000)) || (afw o && match dr with
  | none => false
  | some hs => hs.contains 4000000)
def Rg (dr : Option (List Nat)) (o : Oper) : Bool := match dr with
  | none => true
  | some _ => dW dr o
def r6 (dr : Option (List Nat)) (o : Oper) : Bool := match dr with
  | none => false
  | some hs => hs.contains (3000000 + o.dst.getD 0)
def pn (dr : Option (List Nat)) (k : Nat) : Bool := match dr with
  | none => true
  | some hs => hs.contains (2000000 + k)
def q7 (dr : Option (List Nat)) (look : Operand → Option ai) (o : Oper) : Bool := match dr with
  | none => true
  | some hs => bif hs.isEmpty then true else match o.op with
    | .load _ x => match look x with
      | some (.w (.one (.own k _))) => !hs.contains (2000000 + k)
      | _ => true
    | _ => true
def ll (o : Oper) : Bool := match o.op with
  | .store .. => true
  | .alloc _ => true
  | .box .. => true
  | _ => false
def AB (ops : Array Oper) (hs : List Nat) (dst : Option Nat) : Bool := (List.range ops.size).all fun k => match ops[k]? with
  | some ok => !(ok.dst == dst) || (List.range ops.size).all fun j => match ops[j]? with
    | some bk => !(wK bk || dW (some hs) bk) || waits .any ops 8 j k
    | none => true
  | none => true
def uL (ops : Array Oper) (dr : Option (List Nat)) (dst : Option Nat) : Bool := match dr with
  | none => true
  | some hs => AB ops hs dst
inductive rV (P : Program) (ops : Array Oper) (dr : Option (List Nat)) (R : aJ) (s : aC) (o : Oper) : Bool → cq → Prop
  | k7 (b : Bool) (e : cq) (h : e8 P s.n s.look s.mem o b e) (aD : q7 dr s.look o = true) : rV P ops dr R s o b e
  | read (av : ai) (h : k1 P R s.look o av) (ak : av.closed) (ap : uL ops dr o.dst = true) : rV P ops dr R s o true ⟨av, none⟩
def vm (P : Program) (ops : Array Oper) (dr : Option (List Nat)) (o : Oper) (K : aJ → aC → Prop) (R : aJ) (s : aC) : Prop :=
  ∃ b, want ops o s = some b ∧ (∀ d, o.dst = some d → d < s.n) ∧ ((∃ e, rV P ops dr R s o b e ∧ K R (e.on o.dst s)) ∨ (b = true ∧ ∃ d f, ∃ iL : Value → Prop, o.dst = some d ∧ (k2 P R s.look o f iL ∧ r6 dr o = false) ∧ ∀ aW : Value, iL aW → K (f aW) (s.put (some d) (aR aW))) ∨ (b = true ∧ Rg dr o = true ∧ ∃ aB, o.dst = none ∧ tg P R s.look o aB ∧ K aB s) ∨
    (b = true ∧ dr = none ∧ ∃ d f i, ∃ g : Value → bQ, o.dst = some d ∧ k2 P R s.look o f BK ∧ (∀ aW, f aW i = some (g aW) ∧ (g aW).v = aW ∧ 0 < (g aW).sz) ∧ ∀ aW : Value, aW.oneCell' = true → K (fun j => if j = i then none else f aW j) (s.put (some d) (cU (g aW).sz (g aW).n (g aW).aU))) ∨
    (b = true ∧ dW dr o = true ∧ uW P (pn dr) R s o K) ∨
    (b = true ∧ dW dr o = true ∧ uW P (pn dr) R s o fun aB s' => ∃ i d r, o.dst = some d ∧ aB i = some r ∧ 0 < r.sz ∧ s'.tmps d = some (aR r.v) ∧ d < s'.n ∧ K (fun j => if j = i then none else aB j) (s'.put (some d) (cU r.sz r.n r.aU))))
def cT (P : Program) (ops : Array Oper) (dr : Option (List Nat)) (K : aJ → aC → Prop) : List Oper → aJ → aC → Prop
  | [], R, s => K R s
  | o :: rest, R, s => vm P ops dr o (cT P ops dr K rest) R s
def w9 (P : Program) (md : Region.Mode) (ops : Array Oper) (hs : List Nat) (K : aJ → aC → Prop) : Nat → Array Bool → aJ → aC → Prop
  | 0, bA, R, s => Region.ready md ops bA = [] ∧ K R s
  | fu + 1, bA, R, s => (Region.ready md ops bA = [] → K R s) ∧
    ∀ i ∈ Region.ready md ops bA, ∀ o, ops[i]? = some o → vm P ops (some hs) o (w9 P md ops hs K fu (bA.setIfInBounds i true)) R s
section
variable {P : Program} {bp : ff} {bU A : Nat → Prop} {R : aJ} {s s' : aC} {a a' : Act} {w w' : World} {ad bf : Nat → Nat} {o bn bk : Oper} {ops : Array Oper} {md : Region.Mode} {dr : Option (List Nat)} {hs : List Nat}
theorem rV.ok {b : Bool} {e : cq} (ok : s.cV) (h : rV P ops dr R s o b e) (hd : ∀ d, o.dst = some d → d < s.n) : (e.on o.dst s).cV := by
  cases h with
  | k7 b e h aD => exact yQ ok h hd
  | read av h ak ap => exact ok.put fun j ae => absurd ae (ak j)
theorem I3 (ok : s.cV) (d : Nat) (v : Value) : (s.put (some d) (aR v)).cV := ok.put fun j ae => absurd ae (iJ v j)
theorem Mw {K iY : aJ → aC → Prop} (ok : s.cV) (h : ∀ R s, s.cV → K R s → iY R s) (a6 : vm P ops dr o K R s) : vm P ops dr o iY R s := by
  obtain ⟨b, hw, hd, h1 | ⟨ab, d, f, iL, dF, au, af⟩ | ⟨ab, oM, aB, dF, au, af⟩ | ⟨ab, oM, d, f, i, g, dF, au, aw, af⟩ | ⟨ab, hm, ak⟩ | ⟨ab, hm, ak⟩⟩ := a6
  · obtain ⟨e, he, af⟩ := h1
    exact ⟨b, hw, hd, .inl ⟨e, he, h _ _ (he.ok ok hd) af⟩⟩
  · exact ⟨b, hw, hd, .inr (.inl ⟨ab, d, f, iL, dF, au, fun aW hv => h _ _ (I3 ok d aW) (af aW hv)⟩)⟩
  · exact ⟨b, hw, hd, .inr (.inr (.inl ⟨ab, oM, aB, dF, au, h _ _ ok af⟩))⟩
  · exact ⟨b, hw, hd, .inr (.inr (.inr (.inl ⟨ab, oM, d, f, i, g, dF, au, aw, fun aW hv => h _ _ (ok.put fun j ae => absurd ae (lP _ j)) (af aW hv)⟩)))⟩
  · exact ⟨b, hw, hd, .inr (.inr (.inr (.inr (.inl ⟨ab, hm, ak.mono ok h⟩))))⟩
  · refine ⟨b, hw, hd, .inr (.inr (.inr (.inr (.inr ⟨ab, hm, ak.mono ok fun R s acd af => ?_⟩))))⟩
    obtain ⟨i, d, r, aI, h1, aZ, h2, aq, aK⟩ := af;exact ⟨i, d, r, aI, h1, aZ, h2, aq, h _ _ (acd.put fun j ae => absurd ae (lP _ j)) aK⟩
theorem eL.vc (aA : eL bp bU R s a w A ad) (i d : Nat) (r : bQ) (hi : R i = some r) (b0 : 0 < r.sz) (X5 : s.tmps d = some (aR r.v)) (gh : d < s.n) : ∃ eA, eL bp bU (fun j => if j = i then none else R j) (s.put (some d) (cU r.sz r.n r.aU)) a w eA ad := by
  obtain ⟨oO, cW, aw⟩ := aA.rows i r hi;obtain ⟨xs, az, ao⟩ := oO.row b0;have y7 : ∀ b, s.free A ad b → b < w.heap.size → s.free (fun b => A b ∨ r.v.ownBlock = some b) ad b ∧ w.heap[b]? = w.heap[b]? := fun b ab _ => ⟨⟨.inl ab.1, ab.2⟩, rfl⟩;have G1 : Rel (nV bp s ad w) (fun b => A b ∨ r.v.ownBlock = some b) s ad a w := aA.rel.yz (fun b ab _ => ⟨.inl ab, rfl⟩) (fun k cs af => ⟨rfl, fun au => au.2 k cs af rfl⟩) (kh.refl _) (fun b ab => .inl (aA.rel.up b ab)) (xb _ _ _)
  have xa : eL bp bU (fun j => if j = i then none else R j) s a w (fun b => A b ∨ r.v.ownBlock = some b) ad := by
    refine ⟨aA.up, ?_, G1, aA.o3, aA.below, fun j q ae => ?_, fun j k q cK ae af ld => ?_, fun j q g ae => ?_, aA.kp⟩
    · rintro b (ab | ab)
      · exact aA.sub b ab
      · exact (aA.hot i r b hi (.inl ab)).2
    · have gD : j ≠ i := fun e => by rw [if_pos e] at ae; cases ae
      rw [if_neg gD] at ae;obtain ⟨lK, A3, A4⟩ := aA.rows j q ae;refine ⟨lK.kept A3 (fun _ _ => rfl) (dU _) y7, A3, fun g eN => ⟨?_, (A4 g eN).2⟩⟩;rintro (ab | ab)
      · exact (A4 g eN).1 ab
      · exact aA.apart i j r q hi ae (Ne.symm gD) g (.inl ab) eN
    · have gD : j ≠ i := fun e => by rw [if_pos e] at ae; cases ae
      have kT : k ≠ i := fun e => by rw [if_pos e] at af; cases af
      rw [if_neg gD] at ae;rw [if_neg kT] at af;exact aA.apart j k q cK ae af ld
    · have gD : j ≠ i := fun e => by rw [if_pos e] at ae; cases ae
      rw [if_neg gD] at ae;exact aA.hot j q g ae
  have G2 : Rel (nV bp s ad w) (fun b => A b ∨ r.v.ownBlock = some b) (s.put (some d) (cU r.sz r.n r.aU)) ad a w := by
    refine xa.rel.Qz X5 fun v jh nv => ?_;obtain ⟨rfl, GP⟩ := nv;have nZ := ao.1;obtain ⟨lf, aE | ⟨g, cap, cur, kR, qT, vr, e1, jV, eg, n3⟩⟩ := id az
    · obtain ⟨aG, aO⟩ := aE
      have : r.aU = [] := na (by rw [nZ, lf, aO]; simp);rw [aG];exact ⟨⟨none, 0, by rw [aO], by omega, by rw [this, aO]; simp, fun h => absurd h (by omega)⟩, fun b ⟨c', a', q, aE, ab⟩ => by cases q⟩
    · have tU := az.cells (g := g) (by rw [kR]; rfl)
      rw [kR];have qR : k0 w ⟨g, 0, none⟩ r.aU xs := ⟨(ln.1 vr).1, ao.wS cW fun b _ _ => ⟨trivial, rfl⟩, tU, cW⟩;refine ⟨⟨some ⟨g, 0, none⟩, cap, rfl, e1, by rw [nZ]; exact lf, fun aE => ⟨⟨g, 0, none⟩, xs, rfl, qR⟩⟩, ?_⟩;rintro b ⟨c', a', q, aE, au⟩;cases q;rcases au with rfl | ⟨j, y, v, ag, hv, gC⟩
      · exact ⟨.inr rfl, (aw g (.inl (by rw [kR]; rfl))).2⟩
      · have bj : j < xs.length := by rw [← nZ]; exact (bV.1 ag).1
        have h2 := tU j _ (cl bj);rw [hv] at h2;cases h2;have aq := ao.2 j y _ ag (cl bj);cases y with
        | c u => cases gC
        | own k o => cases gC
        | p S => have := aq.2 b gC; exact ⟨.inl this.1, this.2⟩
  exact ⟨_, xa.next (s' := s.put (some d) (cU r.sz r.n r.aU)) (a' := a) (w' := w) (bf := ad) G2⟩
theorem Aw (s : aC) (d : Nat) (u v : ai) : (s.put (some d) u).put (some d) v = s.put (some d) v := by
  simp only [aC.put, aC.mk.injEq, true_and, and_true];funext j
  by_cases e : j = d
  · subst e; rw [cy, cy]
  · rw [ca _ _ e, ca _ _ e, ca _ _ e]
theorem Mx {ro : Option Nat} {K : aJ → aC → Prop} {iY : Act → World → Prop} {Q : Exit → Act → World → Prop} {i : Nat} (hi : ops[i]? = some o) (ok : s.cV) (aA : pw bp bU R s a w) (h : vm P ops dr o K R s)
    (ef : ∀ aB s' a' w', s'.cV → pw bp bU aB s' a' w' → K aB s' → iY a' w') : wpOpIn (mD ro) 0 P ops Q i iY a w := by
  obtain ⟨A, ad, aA⟩ := aA;obtain ⟨b, hw, hd, h⟩ := h;have oS := RN hw aA.rel;unfold wpOpIn;simp only [hi];cases b with
  | true =>
    rw [oS];simp only [if_true];refine Oper.RP ?_ ?nd
    case nd =>
      rcases h with ⟨e, he, _⟩ | ⟨_, d, f, iL, dF, ⟨au, _⟩, _⟩ | ⟨_, _, aB, dF, au, _⟩ | ⟨_, _, d, f, i, g, dF, au, _⟩ | ⟨_, _, ak⟩ | ⟨_, _, ak⟩
      · cases he with
        | k7 b e he _ => exact (he.step hd).O7 aA.rel
        | read av h ak ap =>
          obtain ⟨v, h1, h2⟩ := h.sound aA;exact xI h1 (fun d h => by cases h)
      · obtain ⟨aW, w2, eA, h1, _⟩ := au.sound aA (hd d dF)
        exact xI h1 (fun d h => by cases h)
      · obtain ⟨w2, eA, h1, _⟩ := au.sound aA
        exact xI h1 (fun d h => by cases h)
      · obtain ⟨aW, w2, eA, h1, _⟩ := au.sound aA (hd d dF)
        exact xI h1 (fun d h => by cases h)
      · obtain ⟨f, args, m0, R0, Post, ⟨⟨c', g, az, _⟩, _⟩, _⟩ := ak.ex
        intro c nW; rw [az] at nW; cases nW
      · obtain ⟨f, args, m0, R0, Post, ⟨⟨c', g, az, _⟩, _⟩, _⟩ := ak.ex
        intro c nW; rw [az] at nW; cases nW
    rcases h with ⟨e, he, af⟩ | ⟨_, d, f, iL, dF, ⟨au, _⟩, af⟩ | ⟨_, _, aB, dF, au, af⟩ | ⟨_, _, d, f, i, g, dF, au, aw, af⟩ | ⟨_, _, ak⟩ | ⟨_, _, ak⟩
    · have dN := he.ok ok hd
      cases he with
      | k7 b e he _ => exact Oper.wp_mono (fun a' w' ⟨bf, ap⟩ => ef _ _ a' w' dN ⟨A, bf, aA.next ap⟩ af) (lx.sound (he.step hd) aA.rel ok)
      | read av h ak ap =>
        obtain ⟨v, h1, h2⟩ := h.sound aA;exact Oper.wu h1 (ef _ _ _ _ dN ⟨A, ad, aA.put hd h2⟩ af)
    · obtain ⟨aW, w2, eA, h1, h2, aq⟩ := au.sound aA (hd d dF)
      refine Oper.wu h1 ?_;rw [dF];exact ef _ _ _ _ (I3 ok d aW) ⟨eA, ad, aq⟩ (af aW h2)
    · obtain ⟨w2, eA, h1, h2⟩ := au.sound aA
      unfold Oper.wp;rw [h1, Oper.upon_skip, dF];exact ef _ _ _ _ ok ⟨eA, ad, h2⟩ af
    · have gh := hd d dF
      obtain ⟨aW, w2, eA, h1, h2, aq⟩ := au.sound aA gh;refine Oper.wu h1 ?_;rw [dF];obtain ⟨lv, aK⟩ := aq.vc i d (g aW) (aw aW).1 (aw aW).2.2 (by rw [(aw aW).2.1]; exact cy _ _ _) gh;rw [Aw] at aK;exact ef _ _ _ _ (ok.put fun j ae => absurd ae (lP _ j)) ⟨lv, ad, aK⟩ (af aW h2)
    · exact ak.sound hd aA ok ef
    · refine ak.sound hd aA ok fun aB s' a' w' dN cE af => ?_
      obtain ⟨i, d, r, _, h1, aZ, h2, aq, aK⟩ := af;obtain ⟨lv, Bd, xa⟩ := cE;obtain ⟨uR, G2⟩ := xa.vc i d r h1 aZ h2 aq;exact ef _ _ _ _ (dN.put fun j ae => absurd ae (lP _ j)) ⟨uR, Bd, G2⟩ aK
  | false =>
    rw [oS];simp only [od, if_false];rcases h with ⟨e, he, af⟩ | ⟨h, _⟩ | ⟨h, _⟩ | ⟨h, _⟩ | ⟨h, _⟩ | ⟨h, _⟩
    · have dN := he.ok ok hd
      cases he with
      | k7 b e he _ =>
        cases he;exact ⟨fun _ _ => trivial, ef _ _ _ _ dN ⟨A, ad, aA.put hd (di.undef _)⟩ af⟩
    · cases h
    · cases h
    · cases h
    · cases h
    · cases h
theorem e8.Cn {n : Nat} {look gE : Operand → Option ai} {mem : Nat → Option (List AC)} {b : Bool} {e : cq} (h : e8 P n look mem o b e) (el : ∀ x ∈ o.op.operands, gE x = look x) : e8 P n gE mem o b e := by
  cases h with
  | skip => exact .skip
  | quiet av al => exact .quiet av (al.congr el)
  | fresh av al => exact .fresh av (al.congr el)
  | load ty x k off cs av az aa hm hv => exact .load ty x k off cs av az (by rw [el x (by simp [az, Op.operands])]; exact aa) hm hv
  | store ty x y k off cs z i az aa ag hm hi hs ab => exact .store ty x y k off cs z i az (by rw [el x (by simp [az, Op.operands])]; exact aa) (by rw [el y (by simp [az, Op.operands])]; exact ag) hm hi hs ab
  | new cs d dF hm aE => exact .new cs d dF hm (aE.congr el)
  | call g args r ak hp => exact .call g args r (ak.congr el) hp
theorem k2.ext {look : Operand → Option ai} {f : Value → aJ} {iL : Value → Prop} (h : k2 P R look o f iL) (aE : wK o = false) (v : Value) : bH R (f v) := by
  cases h with
  | u6 i r tt bytes m jK ke news hi az => simp [wK, az] at aE
  | copy i r tt t2 m lo hi x y news dq b0 az => simp [wK, az] at aE
  | new i t n e sz bytes parts vs zs r hi =>
    intro j q ae;have : j ≠ i := fun e => by subst e; rw [hi] at ae; cases ae
    show bS R i _ j = some q;rw [ca _ _ this]; exact ae
  | make i t l c e sz bytes x y o0 qa vs hi =>
    intro j q ae;have : j ≠ i := fun e => by subst e; rw [hi] at ae; cases ae
    show bS R i _ j = some q;rw [ca _ _ this]; exact ae
theorem e8.O8 {n : Nat} {look : Operand → Option ai} {mem : Nat → Option (List AC)} {b : Bool} {e : cq} (h : e8 P n look mem o b e) (hm : ll o = false) : e.m = none := by
  cases h with
  | skip => rfl
  | quiet av al => rfl
  | fresh av al => rfl
  | load ty x k off cs av az aa gl hv => rfl
  | store ty x y k off cs z i az aa ag gl hi hs ab => simp [ll, az] at hm
  | new cs d dF gl aE =>
    cases aE with
    | alloc ty i z cs az => simp [ll, az] at hm
    | box ty x z az => simp [ll, az] at hm
  | call g args r ak hp => rfl
theorem e8.O9 {n : Nat} {look : Operand → Option ai} {mem OA : Nat → Option (List AC)} {b : Bool} {e : cq} (h : e8 P n look mem o b e) (hm : ll o = false) (Yx : ∀ ty x k off cs, o.op = .load ty x → look x = some (.w (.one (.own k off))) → mem k = some cs → OA k = some cs) : e8 P n look OA o b e := by
  cases h with
  | skip => exact .skip
  | quiet av al => exact .quiet av al
  | fresh av al => exact .fresh av al
  | load ty x k off cs av az aa gl hv => exact .load ty x k off cs av az aa (Yx ty x k off cs az aa gl) hv
  | store ty x y k off cs z i az aa ag gl hi hs ab => simp [ll, az] at hm
  | new cs d dF gl aE =>
    cases aE with
    | alloc ty i z cs az => simp [ll, az] at hm
    | box ty x z az => simp [ll, az] at hm
  | call g args r ak hp => exact .call g args r ak hp
theorem z6 {look gE : Operand → Option ai} (h : q7 dr look o = true) (e : ∀ x ∈ o.op.operands, gE x = look x) : q7 dr gE o = true := by
  unfold q7 at h ⊢;cases dr with
  | none => rfl
  | some hs =>
    simp only at h ⊢;cases he : hs.isEmpty with
    | true => rfl
    | false =>
      rw [he] at h;simp only [cond_false] at h ⊢;cases az : o.op with
      | load ty x =>
        rw [az] at h;simp only at h ⊢;rw [e x (by simp [az, Op.operands])]; exact h
      | _ => rfl
theorem Ob {hs : List Nat} {look : Operand → Option ai} {ty : TypeId} {x : Operand} {k off : Nat} (h : q7 (some hs) look o = true) (az : o.op = .load ty x) (aa : look x = some (.w (.one (.own k off)))) : pn (some hs) k = false := by
  unfold q7 at h;simp only at h;cases he : hs.isEmpty with
  | true =>
    have : hs = [] := List.isEmpty_iff.1 he;subst this; rfl
  | false =>
    rw [he] at h;simp only [cond_false, az, aa, uH] at h;exact h
theorem tg.congr {look gE : Operand → Option ai} {aB : aJ} (h : tg P R look o aB) (e : ∀ x ∈ o.op.operands, gE x = look x) : tg P R gE o aB := by
  cases h with
  | store i r off ty x y z eQ hi aE az aa ag aD hs ab ak => exact .store i r off ty x y z eQ hi aE az (by rw [e x (by simp [az, Op.operands])]; exact aa) (by rw [e y (by simp [az, Op.operands])]; exact ag) aD hs ab ak
theorem Xx {b : Bool} {e : cq} {K : aJ → aC → Prop} (ok : s.cV) (hw : want ops bn s = some b) (he : rV P ops (some hs) R s bn b e) (tV : ∀ d, bn.dst = some d → d < s.n) (pV : bn.apart ops bk = true) (mJ : yi s bn bk) (xq : AB ops hs bn.dst = true → wK bk = false ∧ dW (some hs) bk = false) (zr : ll bn = true → dW (some hs) bk = false) (h : vm P ops (some hs) bk K R (e.on bn.dst s)) :
    vm P ops (some hs) bk (fun aB t => (∃ (f : cq) (dG : Mem), t = f.on bk.dst { s with mem := dG }) ∧ (want ops bn t = some b ∧ rV P ops (some hs) aB t bn b e ∧ (∀ d, bn.dst = some d → d < t.n) ∧ t.cV) ∧ K aB (e.on bn.dst t)) R s := by
  obtain ⟨a1, a2, a3⟩ := Oper.apart_spec pV;obtain ⟨c, sA, qV, a6⟩ := h;rw [x5 (b := none) a1] at sA;have vp : ∀ d, bk.dst = some d → d < s.n := fun d hd => by have := qV d hd; rwa [cq.uA] at this
  have mR : ∀ x ∈ bk.op.operands, (e.on bn.dst s).look x = s.look x := fun x aa => cq.rc _ _ _ fun d hd => ui (a1 d hd) aa;have lj : ∀ (f : cq), ∀ x ∈ bn.op.operands, (f.on bk.dst s).look x = s.look x := fun f x aa => cq.rc _ _ _ fun d hd => ui (a3 d hd) aa;have wi : ∀ f : cq, want ops bn (f.on bk.dst s) = some b := fun f => by rw [x5 (b := none) a3]; exact hw
  have o6 : ∀ f : cq, ∀ d, bn.dst = some d → d < (f.on bk.dst s).n := fun f d hd => by rw [cq.uA]; exact tV d hd
  have Lk : ∀ f : cq, f.m = none → f.on bk.dst (e.on bn.dst s) = e.on bn.dst (f.on bk.dst s) := fun f au => cq.Ap e f bn.dst bk.dst s a2 fun k cs j ds _ h2 => by rw [au] at h2; cases h2
 
  have Rb : ∀ (aB : aJ) (f : cq), f.m = none → (AB ops hs bn.dst = true → bH R aB) → rV P ops (some hs) aB (f.on bk.dst s) bn b e := fun aB f au ao => by
    cases he with
    | k7 b e he aD =>
      refine .k7 _ _ ?_ (z6 aD (lj f));rw [cq.uA, cq.re, au];exact he.Cn (lj f)
    | read av h ak ap => exact .read av ((h.rows (ao ap)).congr (lj f)) ak ap
  refine ⟨c, sA, vp, ?_⟩;rcases a6 with ⟨f, au, af⟩ | ⟨ab, d, f, iL, dF, au, af⟩ | ⟨ab, oM, X4⟩ | ⟨_, oM, _⟩ | ⟨ab, hm, ak⟩ | ⟨ab, hm, ak⟩
  · left
    cases au with
    | k7 c f au Y7 =>
      have Nq := z6 Y7 fun x aa => (mR x aa).symm;cases id he with
      | k7 b e Yb fq =>
        obtain ⟨h1, h2, aq⟩ := e8.swap ok Yb au pV mJ;exact ⟨f, .k7 _ _ h1 Nq, ⟨f, s.mem, rfl⟩, ⟨wi f, .k7 _ _ h2 (z6 fq (lj f)), o6 f, yQ ok h1 vp⟩, by rw [← aq]; exact af⟩
      | read av h ak ap =>
        have h1 : e8 P s.n s.look s.mem bk c f := by
          have : e8 P s.n ((⟨av, none⟩ : cq).on bn.dst s).look s.mem bk c f := by
            have := au;rw [cq.uA, cq.re] at this;exact this
          exact this.Cn fun x aa => (mR x aa).symm
        refine ⟨f, .k7 _ _ h1 Nq, ⟨f, s.mem, rfl⟩, ⟨wi f, .read av (h.congr (lj f)) ak ap, o6 f, yQ ok h1 vp⟩, ?_⟩;have : f.on bk.dst ((⟨av, none⟩ : cq).on bn.dst s) = (⟨av, none⟩ : cq).on bn.dst (f.on bk.dst s) := cq.Ap _ f bn.dst bk.dst s a2 fun k cs j ds h1 _ => by cases h1
        rw [← this]; exact af
    | read av ap ak YV =>
      have h1 : k1 P R s.look bk av := ap.congr fun x aa => (mR x aa).symm;refine ⟨⟨av, none⟩, .read av h1 ak YV, ⟨⟨av, none⟩, s.mem, rfl⟩, ⟨wi _, Rb R _ rfl (fun _ => .refl R), o6 _, ok.put fun j ae => absurd ae (ak j)⟩, ?_⟩;rw [← Lk _ rfl]; exact af
  · right; left
    have h1 : k2 P R s.look bk f iL := au.1.congr fun x aa => (mR x aa).symm;refine ⟨ab, d, f, iL, dF, ⟨h1, au.2⟩, fun aW hv => ?_⟩;have aG : s.put (some d) (aR aW) = (⟨aR aW, none⟩ : cq).on bk.dst s := by rw [dF]; rfl
    have aO : (e.on bn.dst s).put (some d) (aR aW) = (⟨aR aW, none⟩ : cq).on bk.dst (e.on bn.dst s) := by rw [dF]; rfl
    have h2 := af aW hv;have Pq := I3 ok d aW;rw [aO, Lk _ rfl] at h2;rw [aG] at Pq ⊢;exact ⟨⟨_, s.mem, rfl⟩, ⟨wi _, Rb (f aW) _ rfl (fun a6 => h1.ext (xq a6).1 aW), o6 _, Pq⟩, h2⟩
  · obtain ⟨aB, dF, au, af⟩ := X4
    have hm : dW (some hs) bk = true := oM
    have tY : ll bn = false := by
      cases aa : ll bn with
      | false => rfl
      | true => rw [zr aa] at hm; cases hm
    have mI : e8 P s.n s.look s.mem bn b e ∧ q7 (some hs) s.look bn = true := by
      cases he with
      | k7 b e he aD => exact ⟨he, aD⟩
      | read av h ak ap => rw [(xq ap).2] at hm; cases hm
    have h1 : tg P R s.look bk aB := au.congr fun x aa => (mR x aa).symm;exact .inr (.inr (.inl ⟨ab, oM, aB, dF, h1, ⟨⟨afV, none⟩, s.mem, by rw [dF]; rfl⟩, ⟨hw, .k7 _ _ mI.1 mI.2, tV, ok⟩, af⟩))
  · cases oM
  · right; right; right; right; left
    refine ⟨ab, hm, ?_⟩
    have tY : ll bn = false := by
      cases aa : ll bn with
      | false => rfl
      | true => rw [zr aa] at hm; cases hm
    have mI : e8 P s.n s.look s.mem bn b e ∧ q7 (some hs) s.look bn = true := by
      cases he with
      | k7 b e he aD => exact ⟨he, aD⟩
      | read av h ak ap => rw [(xq ap).2] at hm; cases hm
    have pY : e.m = none := mI.1.O8 tY;obtain ⟨f, args, m0, R0, Post, Hc, hp, az, p0, ap, fT, af⟩ := ak.ex;refine ⟨f, args, m0, R0, Post, Hc.congr (fun x aa => (mR x aa).symm), hp, az, fun k cs aI => ?_, ap, fT, fun r aH aB h1 h2 aq aK => ?_⟩
    · obtain ⟨this, aD⟩ := p0 k cs aI
      rw [cq.re, pY] at this;exact ⟨this, aD⟩
    · obtain ⟨f1, ef⟩ := af r aH aB h1 h2 aq aK
      have yW : (s.over aH).put bk.dst r = (⟨r, none⟩ : cq).on bk.dst { s with mem := b5 aH s.mem } := rfl
      have es : ((e.on bn.dst s).over aH).put bk.dst r = e.on bn.dst ((s.over aH).put bk.dst r) := by
        have dn : e.on bn.dst s = s.put bn.dst e.v := by unfold cq.on; rw [pY]
        have aG : e.on bn.dst ((s.over aH).put bk.dst r) = ((s.over aH).put bk.dst r).put bn.dst e.v := by unfold cq.on; rw [pY]
        have aO : (s.put bn.dst e.v).over aH = (s.over aH).put bn.dst e.v := by cases bn.dst <;> rfl
        rw [dn, aG, aO];exact aC.put_comm (s.over aH) e.v r a2
      have se : ∀ k ar, aH k = some ar → (∃ cs, m0 k = some cs) ∨ (s.mem k = none ∧ k < s.n) := fun k ar aI => by
        have := f1 k ar aI;rw [cq.re, pY, cq.uA] at this;exact this
      have Ht : e8 P s.n s.look (b5 aH s.mem) bn b e := mI.1.O9 tY fun ty x k off cs az aa af => by
        have aD := Ob mI.2 az aa;cases vw : aH k with
        | none => rw [gw vw]; exact af
        | some c =>
          rcases se k c vw with ⟨kK, aI⟩ | ⟨aI, _⟩
          · obtain ⟨mM, HN | sw⟩ := p0 k kK aI
            · rw [HN] at aD; cases aD
            · rw [gv (sw r aH aB h1)]
              rw [cq.re, pY] at mM;exact mM.symm.trans af
          · rw [aI] at af; cases af
      refine ⟨fun k ar aI => ?_, ⟨⟨_, _, yW⟩, ⟨?_, ?_, fun d hd => ?_, ok.IP aq h2 _⟩, by rw [← es]; exact ef⟩⟩
      · exact se k ar aI
      · rw [yW, x5 (b := none) a3]; exact hw
      · refine .k7 _ _ ?_ (z6 mI.2 fun x aa => by rw [yW]; exact (cq.rc _ _ _ fun d hd => ui (a3 d hd) aa).trans (by cases x <;> rfl))
        have ao : ∀ x ∈ bn.op.operands, ((s.over aH).put bk.dst r).look x = s.look x := fun x aa => by
          rw [yW];exact (cq.rc _ _ _ fun d hd => ui (a3 d hd) aa).trans (by cases x <;> rfl)
        have aE : ((s.over aH).put bk.dst r).n = s.n := by rw [aC.sK]; rfl
        rw [aE, aC.xE];exact Ht.Cn ao
      · rw [aC.sK]; exact tV d hd
  · right; right; right; right; right
    refine ⟨ab, hm, ?_⟩
    have tY : ll bn = false := by
      cases aa : ll bn with
      | false => rfl
      | true => rw [zr aa] at hm; cases hm
    have mI : e8 P s.n s.look s.mem bn b e ∧ q7 (some hs) s.look bn = true := by
      cases he with
      | k7 b e he aD => exact ⟨he, aD⟩
      | read av h ak ap => rw [(xq ap).2] at hm; cases hm
    have pY : e.m = none := mI.1.O8 tY;obtain ⟨f, args, m0, R0, Post, Hc, hp, az, p0, ap, fT, af⟩ := ak.ex;refine ⟨f, args, m0, R0, Post, Hc.congr (fun x aa => (mR x aa).symm), hp, az, fun k cs aI => ?_, ap, fT, fun r aH aB h1 h2 aq aK => ?_⟩
    · obtain ⟨this, aD⟩ := p0 k cs aI
      rw [cq.re, pY] at this;exact ⟨this, aD⟩
    · obtain ⟨f1, ef⟩ := af r aH aB h1 h2 aq aK
      have yW : (s.over aH).put bk.dst r = (⟨r, none⟩ : cq).on bk.dst { s with mem := b5 aH s.mem } := rfl;obtain ⟨i, d, q, dF, mL, zA, HE, ah0, ef⟩ := ef
      have YR : ((s.over aH).put bk.dst r).tmps d = some (aR q.v) := by
        rw [dF] at HE ⊢;simp only [aC.put, cy] at HE ⊢;exact HE
      have Dg : ((s.over aH).put bk.dst r).n = s.n := by rw [aC.sK]; rfl
      have CA : ((s.over aH).put bk.dst r).put (some d) (cU q.sz q.n q.aU) = (⟨cU q.sz q.n q.aU, none⟩ : cq).on bk.dst { s with mem := b5 aH s.mem } := by rw [dF, Aw]; rfl
      have Gu : (((e.on bn.dst s).over aH).put bk.dst r).put (some d) (cU q.sz q.n q.aU) = e.on bn.dst (((s.over aH).put bk.dst r).put (some d) (cU q.sz q.n q.aU)) := by
        have dn : e.on bn.dst s = s.put bn.dst e.v := by unfold cq.on; rw [pY]
        have aG : ∀ u : aC, e.on bn.dst u = u.put bn.dst e.v := fun u => by unfold cq.on; rw [pY]
        have aO : (s.put bn.dst e.v).over aH = (s.over aH).put bn.dst e.v := by cases bn.dst <;> rfl
        rw [dn, aG, aO, dF, Aw, Aw];exact aC.put_comm (s.over aH) e.v _ (by rw [← dF]; exact a2)
      rw [Gu] at ef;have MK : d < s.n := vp d dF
      have se : ∀ k ar, aH k = some ar → (∃ cs, m0 k = some cs) ∨ (s.mem k = none ∧ k < s.n) := fun k ar aI => by
        have := f1 k ar aI;rw [cq.re, pY, cq.uA] at this;exact this
      have Ht : e8 P s.n s.look (b5 aH s.mem) bn b e := mI.1.O9 tY fun ty x k off cs az aa af => by
        have aD := Ob mI.2 az aa;cases vw : aH k with
        | none => rw [gw vw]; exact af
        | some c =>
          rcases se k c vw with ⟨kK, aI⟩ | ⟨aI, _⟩
          · obtain ⟨mM, HN | sw⟩ := p0 k kK aI
            · rw [HN] at aD; cases aD
            · rw [gv (sw r aH aB h1)]
              rw [cq.re, pY] at mM;exact mM.symm.trans af
          · rw [aI] at af; cases af
      refine ⟨fun k ar aI => ?_, i, d, q, dF, mL, zA, YR, by rw [Dg]; exact MK, ⟨⟨_, _, CA⟩, ⟨?_, ?_, fun d hd => ?_, (ok.IP aq h2 _).put fun j ae => absurd ae (lP _ j)⟩, ef⟩⟩
      · exact se k ar aI
      · rw [CA, x5 (b := none) a3]; exact hw
      · refine .k7 _ _ ?_ (z6 mI.2 fun x aa => by rw [CA]; exact (cq.rc _ _ _ fun d hd => ui (a3 d hd) aa).trans (by cases x <;> rfl))
        have ao : ∀ x ∈ bn.op.operands, (((s.over aH).put bk.dst r).put (some d) (cU q.sz q.n q.aU)).look x = s.look x := fun x aa => by
          rw [CA];exact (cq.rc _ _ _ fun d hd => ui (a3 d hd) aa).trans (by cases x <;> rfl)
        have aE : (((s.over aH).put bk.dst r).put (some d) (cU q.sz q.n q.aU)).n = s.n := by rw [aC.sK, aC.sK]; rfl
        rw [aE, aC.xE, aC.xE];exact Ht.Cn ao
      · rw [aC.sK, aC.sK]; exact tV d hd
theorem Xo {K : aJ → aC → Prop} {i : Nat} {b : Bool} {e : cq} (hi : ops[i]? = some bn) : ∀ (fu : Nat) (bA : Array Bool) (R : aJ) (s : aC),
      (∀ j bk, ops[j]? = some bk → j ≠ i → bA.getD j true = false → (∀ e ∈ bk.after, Region.binds .any e = true → e.on ≠ i) → waits .any ops 4 j i = false → waits .any ops 8 j i = false → bn.apart ops bk = true ∧ pA ops bA bn bk s ∧ (ll bn = true → dW (some hs) bk = false)) →
      Down .any ops bA → i ∈ Region.ready .any ops bA → s.cV → want ops bn s = some b → rV P ops (some hs) R s bn b e → (∀ d, bn.dst = some d → d < s.n) →
      w9 P .any ops hs K fu (bA.setIfInBounds i true) R (e.on bn.dst s) → w9 P .any ops hs K (fu + 1) bA R s := by
  intro fu
  induction fu with
  | zero =>
    intro bA R s _ gh ap ok hw he hd H;refine ⟨fun h => (by rw [h] at ap; cases ap), fun j ae bk fS => ?_⟩
    by_cases gD : j = i
    · subst gD; rw [hi] at fS; cases fS; exact ⟨b, hw, hd, .inl ⟨e, he, H⟩⟩
    · have := ready_mono ae gD
      rw [H.1] at this;cases this
  | succ fu cF =>
    intro bA R s jW gh ap ok hw he hd H;refine ⟨fun h => (by rw [h] at ap; cases ap), fun j ae bk fS => ?_⟩
    by_cases gD : j = i
    · subst gD; rw [hi] at fS; cases fS; exact ⟨b, hw, hd, .inl ⟨e, he, H⟩⟩
    · have h1 := H.2 j (ready_mono ae gD) bk fS
      obtain ⟨vt, aca, zx, dp⟩ := mem_ready.1 ae;rw [fS] at zx;cases zx
      have ss : ∀ e ∈ bk.after, Region.binds .any e = true → e.on ≠ i := fun e he ab sr => by
        have h1 := dp e he ab;have aI := (mem_ready.1 ap).1;rw [sr] at h1;rcases jn i bA.size with aF | aF
        · simp [aF] at aI h1; rw [aI] at h1; cases h1
        · simp [vV aF] at h1
      have sB : ∀ f, waits .any ops f j i = false := fun f => by
        cases sA : waits .any ops f j i with
        | false => rfl
        | true =>
          have h1 := JD gh f j i bk fS dp sA;have aI := (mem_ready.1 ap).1;rcases jn i bA.size with aF | aF
          · simp [aF] at aI h1; rw [aI] at h1; cases h1
          · simp [vV aF] at h1
      have xq : AB ops hs bn.dst = true → wK bk = false ∧ dW (some hs) bk = false := fun h => by
        unfold AB at h;simp only [cC, List.mem_range] at h;have h1 := h i (ln.1 hi).1;simp only [hi, beq_self_eq_true, Bool.not_true, Bool.false_or, cC, List.mem_range] at h1;have h2 := h1 j (ln.1 fS).1;simp only [fS, sB 8, Bool.or_false, uH, Bool.or_eq_false_iff] at h2;exact h2
      obtain ⟨g1, g2, g3⟩ := jW j bk fS gD vt ss (sB 4) (sB 8);have h2 := Xx ok hw he hd g1 g2.sep xq g3 h1;refine Mw ok (fun aB t ai6 aq => ?_) h2;obtain ⟨⟨f, dG, rfl⟩, aq⟩ := aq
      have Hg : ∀ k ok, ops[k]? = some ok → k ≠ i → (bA.setIfInBounds j true).getD k true = false →
          (∀ e ∈ ok.after, Region.binds .any e = true → e.on ≠ i) → waits .any ops 4 k i = false → waits .any ops 8 k i = false → bn.apart ops ok = true ∧ pA ops (bA.setIfInBounds j true) bn ok (f.on bk.dst { s with mem := dG }) ∧ (ll bn = true → dW (some hs) ok = false) := fun k ok af kT jg jX Dp Zd => by
        have ue : bA.getD k true = false := by
          by_cases ld : j = k
          · subst ld; exact vt
          · rwa [getD_set_ne true ld] at jg
        obtain ⟨q1, q2, cj⟩ := jW k ok af kT ue jX Dp Zd;exact ⟨q1, (show pA ops bA bn ok { s with mem := dG } from q2).on fS vt, cj⟩
      refine cF (bA.setIfInBounds j true) aB _ Hg (gh.set ae) (ready_mono ap (Ne.symm gD)) aq.1.2.2.2 aq.1.1 aq.1.2.1 aq.1.2.2.1 ?_;rw [Array.setIfInBounds_comm _ _ gD];exact aq.2
theorem Mq {ro : Option Nat} {K : aJ → aC → Prop} {Q : Exit → Act → World → Prop} (jA : ∀ aB s' a' w', s'.cV → pw bp bU aB s' a' w' → K aB s' → Q .normal a' w') : ∀ (fu : Nat) (bA : Array Bool) (R : aJ) (s : aC) (a : Act) (w : World), s.cV → pw bp bU R s a w →
    w9 P md ops hs K fu bA R s → wpAnyIn (mD ro) 0 P md ops Q fu bA a w
  | 0, _, _, _, _, _, ok, aA, h => ⟨h.1, jA _ _ _ _ ok aA h.2⟩
  | fu + 1, bA, R, s, a, w, ok, aA, h => ⟨fun aI => jA _ _ _ _ ok aA (h.1 aI), fun i hi => by
      obtain ⟨aI, o, az, _⟩ := mem_ready.1 hi;exact Mx az ok aA (h.2 i hi o az) fun aB s' a' w' dN cE af => Mq jA fu _ aB s' a' w' dN cE af⟩
theorem y8 {K : aJ → aC → Prop} (tZ : ∀ o, dW dr o = false) : ∀ (l : List Oper) (R : aJ) (s : aC), cT P ops dr K l R s → ∃ aB s', K aB s' ∧ ∀ t, (∀ o ∈ l, o.dst ≠ some t) → s'.tmps t = s.tmps t
  | [], R, s, h => ⟨R, s, h, fun _ _ => rfl⟩
  | o :: l, R, s, ⟨b, hw, hd, h⟩ => by
    rcases h with ⟨e, he, ef⟩ | ⟨_, d, f, iL, dF, au, ef⟩ | ⟨_, _, bo, dF, au, ef⟩ | ⟨_, _, d, f, i, g, dF, au, aw, ef⟩ | ⟨_, hm, _⟩ | ⟨_, hm, _⟩
    · obtain ⟨aB, s', h1, h2⟩ := y8 tZ l _ _ ef
      exact ⟨aB, s', h1, fun t aD => (h2 t fun fO gY => aD fO (by simp [gY])).trans (cq.xL (aD o (by simp)))⟩
    · obtain ⟨v1, jh⟩ := au.1.out
      obtain ⟨aB, s', h1, h2⟩ := y8 tZ l _ _ (ef v1 jh);refine ⟨aB, s', h1, fun t aD => (h2 t fun fO gY => aD fO (by simp [gY])).trans ?_⟩;have := aD o (by simp);rw [dF] at this;exact cq.xL (e := ⟨aR v1, none⟩) this
    · obtain ⟨aB, s', h1, h2⟩ := y8 tZ l _ _ ef
      exact ⟨aB, s', h1, fun t aD => h2 t fun fO gY => aD fO (by simp [gY])⟩
    · obtain ⟨aB, s', h1, h2⟩ := y8 tZ l _ _ (ef (.bool false) rfl)
      refine ⟨aB, s', h1, fun t aD => (h2 t fun fO gY => aD fO (by simp [gY])).trans ?_⟩;have := aD o (by simp);rw [dF] at this;exact cq.xL (e := ⟨cU (g (.bool false)).sz (g (.bool false)).n (g (.bool false)).aU, none⟩) this
    · rw [tZ o] at hm; cases hm
    · rw [tZ o] at hm; cases hm
def M8 (ops : Array Oper) (hs : List Nat) (bA : Array Bool) (i : Nat) : Bool := (List.range ops.size).all fun j => Nat.beq j i || bA.getD j true || match ops[j]? with
  | some bk => !dW (some hs) bk || waits .any ops 8 j i
  | none => true
def z8 (ops : Array Oper) (ia : List (Nat × Nat)) (hs : List Nat) : List Nat → Array Bool → Bool
  | [], bA => (Region.ready .any ops bA).isEmpty
  | k :: ord, bA => (bif (match ops[k]? with | some o => (vz o && !r6 (some hs) o) || dW (some hs) o | none => true) then Region.ready .any ops bA == [k] else (Region.ready .any ops bA).contains k && Region.free .any ops bA k && DT .any ops ia bA k && (!(match ops[k]? with | some o => ll o | none => true) || M8 ops hs bA k)) && z8 ops ia hs ord (bA.setIfInBounds k true)
theorem k2.hot {look : Operand → Option ai} {f : Value → aJ} {iL : Value → Prop} (h : k2 P R look o f iL) : vz o = true := by
  cases h with
  | u6 i r tt bytes m jK ke news hi az => simp [vz, az]
  | copy i r tt t2 m lo hi x y news dq b0 az => simp [vz, az]
  | new i t n e sz bytes parts vs zs r hi az => simp [vz, az]
  | make i t l c e sz bytes x y o0 qa vs hi az => simp [vz, az]
theorem Mp {K : aJ → aC → Prop} {ia : List (Nat × Nat)} (M0 : ia = [] ∨ hs = []) : ∀ (ord : List Nat) (l : List Oper) (bA : Array Bool) (R : aJ) (s : aC), l.length = ord.length → (∀ (j : Nat), l[j]? = (ord[j]?).bind (ops[·]?)) → (∀ k ∈ ord, bA.getD k true = false) → (∀ k, k < ops.size → bA.getD k true = false → k ∈ ord) → ord.Nodup → Down .any ops bA → s.cV →
    z8 ops ia hs ord bA = true → cT P ops (some hs) (fun R s => ia.all (mw s) = true ∧ K R s) l R s → w9 P .any ops hs K l.length bA R s
  | [], [], _, _, _, _, _, _, _, _, _, _, eY, h => ⟨by simpa [z8] using eY, h.2⟩
  | [], _ :: _, _, _, _, hlen, _, _, _, _, _, _, _, _ => by cases hlen
  | _ :: _, [], _, _, _, hlen, _, _, _, _, _, _, _, _ => by cases hlen
  | k :: ord, o :: l, bA, R, s, hlen, ao, jg, Hd, hr, gh, ok, eY, h => by
    have aI : ops[k]? = some o := by simpa using (ao 0).symm
    have sq := fun tZ => y8 (dr := some hs) tZ _ _ _ h;simp only [z8, aI, eo] at eY;obtain ⟨af, GS⟩ := eY;rw [List.nodup_cons] at hr;have ck : ∀ q ∈ ord, k ≠ q := fun q al e => hr.1 (by rw [e]; exact al)
    have cF : ∀ aB s', s'.cV → k ∈ Region.ready .any ops bA → cT P ops (some hs) (fun R s => ia.all (mw s) = true ∧ K R s) l aB s' → w9 P .any ops hs K l.length (bA.setIfInBounds k true) aB s' := fun aB s' dN ap a6 => by
      refine Mp M0 ord l _ aB s' (by simpa using hlen) (fun j => by simpa using ao (j + 1)) (fun q al => by rw [getD_set_ne true (ck q al)]; exact jg q (by simp [al])) (fun q al vv => ?_) hr.2 (gh.set ap) dN GS a6
      by_cases bz : k = q
      · subst bz
        have : k < bA.size := by
          have := jg k (by simp);rcases jn k bA.size with aF | aF
          · exact aF
          · simp [vV aF] at this
        simp [this] at vv
      · rw [getD_set_ne true bz] at vv
        rcases hf.1 (Hd q al vv) with aF | aF
        · exact absurd aF.symm bz
        · exact aF
    cases a6 : ((vz o && !r6 (some hs) o) || dW (some hs) o) with
    | true =>
      rw [a6] at af;simp only [cond_true, beq_iff_eq] at af;have ap : k ∈ Region.ready .any ops bA := by rw [af]; simp
      refine ⟨fun h1 => (by rw [af] at h1; cases h1), fun i hi bn M3 => ?_⟩;rw [af] at hi;obtain rfl : i = k := by simpa using hi
      rw [aI] at M3;cases M3;exact Mw ok (fun aB s' dN a6 => cF aB s' dN ap a6) h
    | false =>
      rw [a6] at af;simp only [cond_false, eo] at af;obtain ⟨⟨⟨ap, au⟩, hm⟩, zt⟩ := af;rw [Bool.or_eq_false_iff] at a6;have Di : k ∈ Region.ready .any ops bA := by simpa using ap
      obtain ⟨b, hw, hd, h1⟩ := h;rcases h1 with ⟨e, he, ef⟩ | ⟨_, d, f, iL, dF, mc, _⟩ | ⟨_, oM, _⟩ | ⟨_, oM, _⟩ | ⟨_, gl, _⟩ | ⟨_, gl, _⟩
      · have mf : ∀ p ∈ ia, o7 ops bA p.1 = true → o7 ops bA p.2 = true → mw s p = true := fun p hp hy j2 => by
          have mM : hs = [] := by
            rcases M0 with aI | aI
            · rw [aI] at hp; cases hp
            · exact aI
          obtain ⟨aB, s', ⟨h1, _⟩, h2⟩ := sq fun o => by rw [mM]; simp [dW]
          have hB : ∀ t, o7 ops bA t = true → ∀ fO ∈ o :: l, fO.dst ≠ some t := fun t aD fO gY => by
            obtain ⟨j, ae⟩ := kw gY;rw [ao j] at ae;cases al : (k :: ord)[j]? with
            | none => rw [al] at ae; cases ae
            | some q => rw [al] at ae; exact D7 aD q fO ae (jg _ (dJ al))
          have := cC.1 h1 p hp;unfold mw at this ⊢;rw [h2 p.1 (hB _ hy), h2 p.2 (hB _ j2)] at this;exact this
        refine Xo aI l.length bA R s (fun j bk h1 h2 aq aK cO ek => ⟨Region.free_spec aI au j bk h1 h2 aq aK, OD aI hm mf j bk h1 h2 aq cO, fun zr => ?_⟩) gh Di ok hw he hd ?_
        · rw [zr] at zt
          simp only [Bool.not_true, Bool.false_or] at zt;unfold M8 at zt;simp only [cC, List.mem_range] at zt;have q := zt j (ln.1 h1).1;simp only [h1, aq, ek, Bool.or_false, rl, uH] at q;rcases q with q | q
          · exact absurd (hE q) h2
          · exact q
        exact cF _ _ (he.ok ok hd) Di ef
      · rw [mc.1.hot, mc.2] at a6; cases a6.1
      · have gl : dW (some hs) o = true := oM
        rw [a6.2] at gl; cases gl
      · cases oM
      · rw [a6.2] at gl; cases gl
      · rw [a6.2] at gl; cases gl
def fJ (P : Program) (c : Code) (Q : Exit → aJ → aC → Prop) (R : aJ) (s : aC) : Prop :=
  s.cV → ∀ bp bU a w, pw bp bU R s a w → kH P c (fun x a' w' => ∃ aB s', s'.cV ∧ pw bp bU aB s' a' w' ∧ Q x aB s') a w
def Jb (l : List Oper) (ord hs : List Nat) : Bool := ((vQ l.toArray ord).isEmpty || hs.isEmpty) && Nat.beq ord.length l.length && Ah ord && (List.range l.length).all (fun i => ord.contains i) && ord.all (fun i => Nat.blt i l.length) && z8 l.toArray (vQ l.toArray ord) hs ord (Array.replicate l.length false)
variable {Q : Exit → aJ → aC → Prop} {x y c : Code}
theorem iT (ord hs : List Nat) {id : Nat} {l cG : List Oper} (eY : Jb l ord hs = true) (hm : P.follows .mixedOrders = true) (ao : getAll l ord = some cG)
    (h : cT P l.toArray (some hs) (fun R s => (vQ l.toArray ord).all (mw s) = true ∧ Q .normal R s) cG R s) : fJ P (.region id l.toArray true) Q R s := by
  intro ok bp bU a w aA;refine RJ hm fun ro => ?_;unfold Jb at eY;simp only [eo, cC, List.mem_range, List.contains_eq_mem, c0] at eY;obtain ⟨⟨⟨⟨⟨va, oC⟩, b1⟩, b2⟩, eF⟩, dV⟩ := eY;obtain ⟨g1, g2⟩ := GK _ _ ao;obtain ⟨A, ad, aA⟩ := aA;have hd : eL bp bU R s a { w with drawn := w.drawn + 1 } A ad := aA.next (aA.rel.call ((Below.refl _ w).drew))
  refine Mq (K := Q .normal) (hs := hs) (fun aB s' a' w' dN cE af => ⟨aB, s', dN, cE, af⟩) _ _ R s a _ ok ⟨A, ad, hd⟩ ?_;have nd := IH _ b1;have hlen : ord.length = l.length := hE oC;have := Mp (ops := l.toArray) (hs := hs) (by simpa [rl, List.isEmpty_iff] using va) ord cG (Array.replicate l.length false) R s g1 (by simpa using g2) (fun q al => by have := eF q al; simp [Nat.blt_eq] at this; simp [this]) (fun q al _ => b2 q (by simpa using al)) nd (fun k o af => by exfalso; rcases jn k l.length with q | q <;> simp [Array.getElem?_replicate, q] at af) ok dV h;rw [g1, hlen] at this;simpa using this
theorem cb (ord : List Nat) {id : Nat} {l cG : List Oper} (eY : Jb l ord [] = true) (hm : P.follows .mixedOrders = true) (ao : getAll l ord = some cG)
    (h : cT P l.toArray (some []) (fun R s => (vQ l.toArray ord).all (mw s) = true ∧ Q .normal R s) cG R s) : fJ P (.region id l.toArray true) Q R s := iT ord [] eY hm ao h
theorem Mu {ro : Option Nat} {K : aJ → aC → Prop} {Q : Exit → Act → World → Prop} (jA : ∀ aB s' a' w', s'.cV → pw bp bU aB s' a' w' → K aB s' → Q .normal a' w') : ∀ (l : List Oper) (k : Nat) (R : aJ) (s : aC) (a : Act) (w : World), (∀ (j : Nat), l[j]? = ops[k + j]?) → s.cV → pw bp bU R s a w →
    cT P ops dr K l R s → wpOpsIn (mD ro) 0 P ops Q ((List.range l.length).map (k + ·)) a w
  | [], _, _, _, _, _, _, ok, aA, h => jA _ _ _ _ ok aA h
  | o :: l, k, R, s, a, w, ao, ok, aA, h => by
    have aI : ops[k]? = some o := by simpa using (ao 0).symm
    have e : (List.range (o :: l).length).map (k + ·) = k :: (List.range l.length).map (k + 1 + ·) := by
      rw [mq, List.range_succ_eq_map, lp, List.map_map];congr 1;apply qf;intro j _;simp [Nat.add_assoc, Nat.add_comm 1 j]
    rw [e, wpOpsIn_cons];refine Mx aI ok aA h fun aB s' a' w' dN cE af => Mu jA l (k + 1) aB s' a' w' (fun j => by have := ao (j + 1); simpa [Nat.add_assoc, Nat.add_comm 1 j] using this) dN cE af
theorem aY {id : Nat} {l : List Oper} (h : cT P l.toArray none (Q .normal) l R s) : fJ P (.region id l.toArray false) Q R s := by
  intro ok bp bU a w aA;refine RI fun ro => ?_;have := Mu (ro := ro) (ops := l.toArray) (K := Q .normal) (Q := fun e a' w' => ∃ aB s', s'.cV ∧ pw bp bU aB s' a' w' ∧ Q e aB s') (fun aB s' a' w' dN cE af => ⟨aB, s', dN, cE, af⟩) l 0 R s a w (by simp) ok aA h;simpa using this
def AK (next : aJ → aC → Prop) (Q : Exit → aJ → aC → Prop) : Exit → aJ → aC → Prop
  | .normal, R, s => next R s
  | e, R, s => Q e R s
def uK (id : Nat) (Q : Exit → aJ → aC → Prop) : Exit → aJ → aC → Prop
  | .exit mQ, R, s => bif Nat.beq mQ id then Q .normal R s else Q (.exit mQ) R s
  | e, R, s => Q e R s
theorem a7 (h : fJ P x (AK (fun R s => fJ P y Q R s) Q) R s) : fJ P (.seq x y) Q R s := by
  intro ok bp bU a w cS;refine RL (tc (h ok bp bU a w cS) ?_);rintro x a' w' ⟨aB, s', dN, mG, al⟩;cases x <;> first | exact al dN bp bU a' w' mG | exact ⟨aB, s', dN, mG, al⟩
theorem cL (h : Q .normal R s) : fJ P .skip Q R s := fun ok bp bU a w aA => RM ⟨R, s, ok, aA, h⟩
theorem fc {id : Nat} (h : Q (.exit id) R s) : fJ P (.exit id) Q R s := fun ok bp bU a w aA => RG ⟨R, s, ok, aA, h⟩
theorem cN (h : Q .ret R s) : fJ P .ret Q R s := fun ok bp bU a w aA => RK ⟨R, s, ok, aA, h⟩
theorem dY {id : Nat} (h : fJ P x (uK id Q) R s) : fJ P (.block id x) Q R s := by
  intro ok bp bU a w cS;refine RE (tc (h ok bp bU a w cS) ?_);rintro x a' w' ⟨aB, s', dN, mG, al⟩;cases x with
  | exit mQ =>
    simp only [Exit.inBlock];simp only [uK] at al;cases ab : Nat.beq mQ id with
    | true => rw [ab] at al; rw [if_pos (hE ab)]; exact ⟨aB, s', dN, mG, al⟩
    | false =>
      rw [ab] at al;have : mQ ≠ id := fun e => by subst e; rw [Nat.beq_refl] at ab; cases ab
      rw [if_neg this]; exact ⟨aB, s', dN, mG, al⟩
  | _ => exact ⟨aB, s', dN, mG, al⟩
theorem Q1 {c : Operand} {b : Bool} (ak : s.look c = some (bD b)) (h1 : b = true → fJ P x Q R s) (aI : b = false → fJ P y Q R s) : fJ P (.cond c x y) Q R s := by
  rintro ok bp bU a w ⟨A, ad, aA⟩;have hv : a.eval c = .bool b := (aA.rel.look ak).1;refine RF hv ?_;cases b with
  | true => exact h1 rfl ok bp bU a w ⟨A, ad, aA⟩
  | false => exact aI rfl ok bp bU a w ⟨A, ad, aA⟩
theorem cX {c : Operand} {b : Bool} (ak : s.look c = some (bD b)) (ab : b = true) (h1 : fJ P x Q R s) : fJ P (.cond c x y) Q R s := Q1 ak (fun _ => h1) fun e => by rw [ab] at e; cases e
theorem cD {c : Operand} {b : Bool} (ak : s.look c = some (bD b)) (ab : b = false) (aI : fJ P y Q R s) : fJ P (.cond c x y) Q R s := Q1 ak (fun e => by rw [ab] at e; cases e) fun _ => aI
theorem kD (N : Nat) (I : Nat → aJ → List (Nat × ai) → List (Nat × List AC) → Prop) (k : Nat) (R0 : aJ) (ts : List (Nat × ai)) (bw : List (Nat × List AC)) (bu : I k R0 ts bw) (ao : bH R0 R) (aE : N = s.n) (aD : oA s.tmps ts) (hm : oA s.mem bw) (dD : okB ts bw = true)
    (round : ∀ k R ts bw, I k R ts bw → okB ts bw = true → fJ P x (AK (fun aB s' => ∃ k' BM ol o4, k' < k ∧ I k' BM ol o4 ∧ bH BM aB ∧ N = s'.n ∧ oA s'.tmps ol ∧ oA s'.mem o4 ∧ okB ol o4 = true) Q) R (ul N ts bw)) : fJ P (.loop x) Q R s := by
  rintro ok bp bU a w ⟨A, ad, aA⟩;refine RH (fun k a w => ∃ R ts bw, I k R ts bw ∧ okB ts bw = true ∧ pw bp bU R (ul N ts bw) a w) (n := k) ⟨R0, ts, bw, bu, dD, A, ad, (aA.le ao).Od (DU aE aD hm)⟩ ?_;rintro k a w ⟨R, ts, bw, bu, ok, cS⟩;refine tc (round k R ts bw bu ok (Is ok) bp bU a w cS) ?_;rintro x a' w' ⟨aB, s', dN, ⟨eA, bf, mG⟩, al⟩;cases x with
  | normal =>
    obtain ⟨k', BM, ol, o4, h1, h2, aq, aK, cO, ek, np⟩ := al;exact ⟨k', h1, BM, ol, o4, h2, np, eA, bf, (mG.le aq).Od (DU aK cO ek)⟩
  | _ => exact ⟨aB, s', dN, ⟨eA, bf, mG⟩, al⟩
theorem u7 {Q : Exit → aC → Prop} (h : fJ P c (fun x aB s' => Q x s') gO s) : fI P c Q s := by
  intro ok B A ad a w aA;have cS : eL B A gO s a w A ad := ⟨aA.up, fun _ h => h, aA.hot fun b h => aA.up b (lT aA.below.size h), fun k cs af => (aA.dG k cs af).choose_spec.choose_spec.2.2, aA.below, fun i r hi => (by cases hi), fun i j r q hi => (by cases hi), fun i r g hi => (by cases hi), aA.kp⟩;refine tc (h ok B A a w ⟨A, ad, cS⟩) ?_;rintro x a' w' ⟨aB, s', dN, ⟨hX, e5, h1⟩, al⟩;exact ⟨s', e5, dN, h1.rel.yz (fun b ab _ => ⟨h1.sub b ab, rfl⟩) (fun k cs af => ⟨rfl, h1.o3 k cs af⟩) h1.below aA.up h1.kp, al⟩
theorem oi (i e sz : Nat) (hi : R i = none) (h : fJ P c Q (bS R i ⟨e, sz, .slice none 0 0, 0, []⟩) s) (b0 : 0 < sz := by decide) : fJ P c Q R s := by
  rintro ok bp bU a w ⟨A, ad, aA⟩;have jX : ∀ g, ¬ (⟨e, sz, .slice none 0 0, 0, []⟩ : bQ).own g := fun g aw => by have := bQ.o9 aw b0; cases this
  refine h ok bp bU a w ⟨A, ad, aA.up, aA.sub, aA.rel, aA.o3, aA.below, fun j r ae => ?_, fun j k r q ae af ld g aw => ?_, fun j r g ae aw => ?_, aA.kp⟩
  · by_cases bz : j = i
    · subst bz
      rw [cy] at ae;cases ae;exact ⟨.inl ⟨b0, [], World.ownsRow_nil w 0 e sz, rfl, fun i x v aa => by simp at aa⟩, fun y ag => (by cases ag), fun g aw => absurd aw (jX g)⟩
    · rw [ca _ _ bz] at ae; exact aA.rows j r ae
  · by_cases aG : j = i
    · subst aG; rw [cy] at ae; cases ae; exact absurd aw (jX g)
    · rw [ca _ _ aG] at ae
      by_cases aO : k = i
      · subst aO; rw [cy] at af; cases af; exact jX g
      · rw [ca _ _ aO] at af; exact aA.apart j k r q ae af ld g aw
  · by_cases aG : j = i
    · subst aG; rw [cy] at ae; cases ae; exact absurd aw (jX g)
    · rw [ca _ _ aG] at ae; exact aA.hot j r g ae aw
theorem EN (i d : Nat) (r : bQ) (hi : R i = some r) (hd : s.tmps d = some (aR r.v)) (h : fJ P c Q (fun j => if j = i then none else R j) (s.put (some d) (cU r.sz r.n r.aU))) (b0 : 0 < r.sz := by first | decide | exact jG _) : fJ P c Q R s := by
  rintro ok bp bU a w ⟨A, ad, aA⟩
  have gh : d < s.n := by
    obtain ⟨v, h1, _⟩ := aA.rel.hh d _ hd;rw [← aA.rel.size];exact (ln.1 h1).1
  obtain ⟨eA, CT⟩ := aA.vc i d r hi b0 hd gh;exact h (ok.put fun j ae => absurd ae (lP _ j)) bp bU a w ⟨eA, ad, CT⟩
theorem aN {K : aJ → aC → Prop} {rest : List Oper} (aD : q7 dr s.look o = true) (h : bi P ops (fun s' => cT P ops dr K rest R s') [o] s) : cT P ops dr K (o :: rest) R s := by
  obtain ⟨b, hw, e, he, hd, af⟩ := h;exact ⟨b, hw, hd, .inl ⟨e, .k7 b e he aD, af⟩⟩
theorem aS {K : aJ → aC → Prop} (h : K R s) : cT P ops dr K [] R s := h
theorem cZ {K : aJ → aC → Prop} {ia : List (Nat × Nat)} (hs : ia.all (mw s) = true) (h : K R s) : cT P ops dr (fun R s => ia.all (mw s) = true ∧ K R s) [] R s := ⟨hs, h⟩
variable {d ty : Nat} {pos : String} {after : Array Edge} {guard : Option (Nat × Bool)} {K : aJ → aC → Prop} {rest : List Oper}
theorem zG {op : Op} {av : ai} (hw : want ops ⟨some d, op, ty, pos, after, guard⟩ s = some true) (al : k1 P R s.look ⟨some d, op, ty, pos, after, guard⟩ av) (ak : av.ba = true) (ap : uL ops dr (some d) = true) (hd : Nat.blt d s.n = true) (h : cT P ops dr K rest R (s.put (some d) av)) : cT P ops dr K (⟨some d, op, ty, pos, after, guard⟩ :: rest) R s :=
  ⟨true, hw, k9 hd, .inl ⟨⟨av, none⟩, .read av al (ai.dH ak) ap, h⟩⟩
theorem fD {x : Operand} {t z : Nat} {r : bQ} (i : Nat) [S : iC P t z] (hi : R i = some r) (hw : want ops ⟨some d, .call ⟨.builtin .len, #[x], #[t]⟩, ty, pos, after, guard⟩ s = some true) (aa : s.look x = some (aR r.v)) (b0 : Nat.blt 0 r.sz = true) (ap : uL ops dr (some d) = true) (hd : Nat.blt d s.n = true) (h : cT P ops dr K rest R (s.put (some d) (aV r.n))) : cT P ops dr K (⟨some d, .call ⟨.builtin .len, #[x], #[t]⟩, ty, pos, after, guard⟩ :: rest) R s :=
  zG hw (.len i r t z x hi (by simpa [Nat.blt_eq] using b0) rfl aa S.h) rfl ap hd h
theorem e2 {x y : Operand} {t z : Nat} {r : bQ} {ha : IntKind} {j : Int} (i : Nat) [S : iC P t z] (hi : R i = some r) (hw : want ops ⟨some d, .indexAddr t x y, ty, pos, after, guard⟩ s = some true) (aa : s.look x = some (aR r.v)) (ag : s.look y = some (aR (.int ha j))) (aI : 0 ≤ j) (h1 : j < r.n) (aZ : z = r.sz) (ap : uL ops dr (some d) = true) (hd : Nat.blt d s.n = true) (h : cT P ops dr K rest R (s.put (some d) (aR (jJ r.v (j.toNat * z))))) : cT P ops dr K (⟨some d, .indexAddr t x y, ty, pos, after, guard⟩ :: rest) R s := by
  subst aZ;exact zG hw (.idx i r t x y ha j hi rfl aa ag aI h1 S.h) rfl ap hd h
theorem fE {x : Operand} {lt n off : Nat} {r : bQ} {zs : List AC} (i : Nat) [T : gd P lt true n] (hi : R i = some r) (hw : want ops ⟨some d, .load lt x, ty, pos, after, guard⟩ s = some true) (aa : s.look x = some (aR (jJ r.v off))) (aE : 0 < r.n) (aZ : off + n ≤ r.aU.length ∧ (r.aU.drop off).take n = zs) (ak : (ai.w (.agg zs)).ba = true) (ap : uL ops dr (some d) = true) (hd : Nat.blt d s.n = true) (h : cT P ops dr K rest R (s.put (some d) (.w (.agg zs)))) : cT P ops dr K (⟨some d, .load lt x, ty, pos, after, guard⟩ :: rest) R s :=
  zG hw (.load i r off lt x _ hi aE rfl aa (by
    have en := T.h;unfold kE at en;unfold pick;rw [← aZ.2];cases hu : P.underlying lt with
    | none => rw [hu] at en; cases en
    | some D =>
      cases gi : P.info? lt with
      | none => rw [hu, gi] at en; cases D <;> cases en
      | some eQ =>
        rw [hu, gi] at en;cases D <;> simp at en <;> (subst en; simp [aZ.1]))) ak ap hd h
theorem q0 {tt bytes m : Nat} {r : bQ} {jK ke : Operand} {news : List AC} (i : Nat) (hi : R i = some r) [T : ox P tt r.e r.sz bytes] (hw : want ops ⟨some d, .call ⟨.builtin .append, #[jK, ke], #[tt, tt]⟩, ty, pos, after, guard⟩ s = some true) (aa : s.look jK = some (aR r.v)) (ag : s.look ke = some (cU r.sz m news)) (h1 : r.n + m ≤ maxLen) (h2 : (r.n + m) * bytes ≤ 140737488355328) (ak : news.all AC.ba = true) (hd : Nat.blt d s.n = true)
    (h : ∀ aW, aW.oneCell' = true → cT P ops dr K rest (bS R i ⟨r.e, r.sz, aW, r.n + m, r.aU ++ news⟩) (s.put (some d) (aR aW))) (pW : r6 dr ⟨some d, .call ⟨.builtin .append, #[jK, ke], #[tt, tt]⟩, ty, pos, after, guard⟩ = false := by exact rfl) : cT P ops dr K (⟨some d, .call ⟨.builtin .append, #[jK, ke], #[tt, tt]⟩, ty, pos, after, guard⟩ :: rest) R s :=
  ⟨true, hw, k9 hd, .inr (.inl ⟨rfl, d, _, _, rfl, ⟨.u6 i r tt bytes m jK ke news hi rfl T.h aa ag h1 h2 (cC.1 ak), pW⟩, h⟩)⟩
theorem Nc {tt bytes m k : Nat} {r : bQ} {jK ke : Operand} {news zs : List AC} (i : Nat) (hi : R i = some r) [T : ox P tt r.e r.sz bytes] (hw : want ops ⟨some d, .call ⟨.builtin .append, #[jK, ke], #[tt, tt]⟩, ty, pos, after, guard⟩ s = some true) (aa : s.look jK = some (aR r.v)) (ag : s.look ke = some (cU r.sz m news)) (h1 : r.n + m ≤ maxLen) (h2 : (r.n + m) * bytes ≤ 140737488355328) (af : r.n + m = k) (aZ : r.aU ++ news = zs) (ak : news.all AC.ba = true) (hd : Nat.blt d s.n = true)
    (h : cT P ops none K rest (fun j => if j = i then none else R j) (s.put (some d) (cU r.sz k zs))) : cT P ops none K (⟨some d, .call ⟨.builtin .append, #[jK, ke], #[tt, tt]⟩, ty, pos, after, guard⟩ :: rest) R s := by
  subst af aZ;refine ⟨true, hw, k9 hd, .inr (.inr (.inr (.inl ⟨rfl, rfl, d, _, i, fun aW => ⟨r.e, r.sz, aW, r.n + m, r.aU ++ news⟩, rfl, .u6 i r tt bytes m jK ke news hi rfl T.h aa ag h1 h2 (cC.1 ak), fun aW => ⟨cy _ _ _, rfl, (rz T.h).choose_spec.choose_spec.2.2.2.2.2.2⟩, fun aW hv => ?_⟩)))⟩
  have : (fun j => if j = i then none else bS R i ⟨r.e, r.sz, aW, r.n + m, r.aU ++ news⟩ j) = fun j => if j = i then none else R j := by
    funext j
    by_cases e : j = i
    · rw [if_pos e, if_pos e]
    · rw [if_neg e, if_neg e, ca _ _ e]
  rw [this];exact h
theorem Nh {t e sz bytes : Nat} {vs : List Value} (i : Nat) (hi : R i = none) [T : ox P t e sz bytes] [Z : pB P t vs] (hw : want ops ⟨some d, .buildSlice t 0 #[], ty, pos, after, guard⟩ s = some true)
    (h1 : (vs.all fun v => v.oneCell') = true) (hs : Nat.beq vs.length sz = true) (hd : Nat.blt d s.n = true)
    (h : ∀ aW, aW.oneCell' = true → cT P ops dr K rest (bS R i ⟨e, sz, aW, 0, []⟩) (s.put (some d) (aR aW))) (pW : r6 dr ⟨some d, .buildSlice t 0 #[], ty, pos, after, guard⟩ = false := by exact rfl) : cT P ops dr K (⟨some d, .buildSlice t 0 #[], ty, pos, after, guard⟩ :: rest) R s :=
  ⟨true, hw, k9 hd, .inr (.inl ⟨rfl, d, _, _, rfl, ⟨.new i t 0 e sz bytes [] vs [] [] hi rfl T.h Z.h rfl (by simp [ih, qK]) h1 (hE hs) (by simp) (ez _) (by simp) (fun y ag => by cases ag), pW⟩, h⟩)⟩
theorem zF {t l c' e sz bytes : Nat} {x y : Operand} {o0 qa : IntKind} {vs : List Value} (i : Nat) (hi : R i = none) [T : ox P t e sz bytes] [Z : pB P t vs] (hw : want ops ⟨some d, .makeSlice t x y, ty, pos, after, guard⟩ s = some true) (aa : s.look x = some (aR (.int o0 l))) (ag : s.look y = some (aR (.int qa c'))) (ao : l ≤ c')
    (h1 : (vs.all fun v => v.oneCell') = true) (hs : Nat.beq vs.length sz = true) (h2 : bytes * c' ≤ 281474976710656) (aq : c' ≤ maxLen) (hd : Nat.blt d s.n = true)
    (h : ∀ aW, aW.oneCell' = true → cT P ops dr K rest (bS R i ⟨e, sz, aW, l, ih l sz vs⟩) (s.put (some d) (aR aW))) (pW : r6 dr ⟨some d, .makeSlice t x y, ty, pos, after, guard⟩ = false := by exact rfl) : cT P ops dr K (⟨some d, .makeSlice t x y, ty, pos, after, guard⟩ :: rest) R s :=
  ⟨true, hw, k9 hd, .inr (.inl ⟨rfl, d, _, _, rfl, ⟨.make i t l c' e sz bytes x y o0 qa vs hi rfl T.h Z.h aa ag ao h1 (hE hs) h2 aq, pW⟩, h⟩)⟩
theorem YY {tt t2 m z k : Nat} {r : bQ} {x y : Operand} {news zs : List AC} (i : Nat) [S : iC P tt z] (hi : R i = some r) (hw : want ops ⟨some d, .call ⟨.builtin .copy, #[x, y], #[tt, t2]⟩, ty, pos, after, guard⟩ s = some true) (aa : s.look x = some (aR r.v)) (ag : s.look y = some (cU z m news)) (aZ : z = r.sz) (b0 : Nat.blt 0 r.sz = true) (ak : news.all AC.ba = true) (hd : Nat.blt d s.n = true) (af : Nat.min m r.n = k) (he : er r.aU 0 (news.take (k * r.sz)) = zs) (pW : r6 dr ⟨some d, .call ⟨.builtin .copy, #[x, y], #[tt, t2]⟩, ty, pos, after, guard⟩ = false)
    (h : cT P ops dr K rest (bS R i ⟨r.e, r.sz, r.v, r.n, zs⟩) (s.put (some d) (aV (k : Int)))) : cT P ops dr K (⟨some d, .call ⟨.builtin .copy, #[x, y], #[tt, t2]⟩, ty, pos, after, guard⟩ :: rest) R s := by
  subst aZ af he;refine ⟨true, hw, k9 hd, .inr (.inl ⟨rfl, d, _, _, rfl, ⟨.copy i r tt t2 m 0 r.n x y news hi (by simpa [Nat.blt_eq] using b0) rfl S.h (.inl ⟨aa, rfl, rfl⟩) (.inl ag) (ez _) (dU _) (cC.1 ak), pW⟩, fun aW hv => ?_⟩)⟩;subst hv;simpa using h
theorem Nd {tt t2 m z k lo hi : Nat} {u : Value} {r : bQ} {x y : Operand} {news zs : List AC} (i : Nat) [S : iC P tt z] (dq : R i = some r) (hw : want ops ⟨some d, .call ⟨.builtin .copy, #[x, y], #[tt, t2]⟩, ty, pos, after, guard⟩ s = some true) (aa : s.look x = some (aR u)) (hu : ja r.v r.sz lo hi u) (ag : s.look y = some (cU z m news)) (aZ : z = r.sz) (b0 : Nat.blt 0 r.sz = true) (h1 : lo ≤ hi) (h2 : hi ≤ r.n) (ak : news.all AC.ba = true) (hd : Nat.blt d s.n = true) (af : Nat.min m (hi - lo) = k) (he : er r.aU (lo * r.sz) (news.take (k * r.sz)) = zs) (pW : r6 dr ⟨some d, .call ⟨.builtin .copy, #[x, y], #[tt, t2]⟩, ty, pos, after, guard⟩ = false)
    (h : cT P ops dr K rest (bS R i ⟨r.e, r.sz, r.v, r.n, zs⟩) (s.put (some d) (aV (k : Int)))) : cT P ops dr K (⟨some d, .call ⟨.builtin .copy, #[x, y], #[tt, t2]⟩, ty, pos, after, guard⟩ :: rest) R s := by
  subst aZ af he;exact ⟨true, hw, k9 hd, .inr (.inl ⟨rfl, d, _, _, rfl, ⟨.copy i r tt t2 m lo hi x y news dq (by simpa [Nat.blt_eq] using b0) rfl S.h (.inr (.inr ⟨u, aa, hu⟩)) (.inl ag) h1 h2 (cC.1 ak), pW⟩, fun aW hv => by subst hv; exact h⟩)⟩
theorem YZ {tt t2 m z k lo hi ey ea : Nat} {u cw : Value} {r : bQ} {x y : Operand} {zs : List AC} (i : Nat) [S : iC P tt z] (dq : R i = some r) (hw : want ops ⟨some d, .call ⟨.builtin .copy, #[x, y], #[tt, t2]⟩, ty, pos, after, guard⟩ s = some true) (aa : s.look x = some (aR u)) (hu : ja r.v r.sz lo hi u) (ag : s.look y = some (aR cw)) (Y8 : ja r.v r.sz ey ea cw) (hm : ey + m = ea) (b4 : ea ≤ r.n) (aZ : z = r.sz) (b0 : Nat.blt 0 r.sz = true) (h1 : lo ≤ hi) (h2 : hi ≤ r.n) (ak : r.aU.all AC.ba = true) (hd : Nat.blt d s.n = true) (af : Nat.min m (hi - lo) = k) (he : er r.aU (lo * r.sz) (((r.aU.drop (ey * r.sz)).take (m * r.sz)).take (k * r.sz)) = zs) (pW : r6 dr ⟨some d, .call ⟨.builtin .copy, #[x, y], #[tt, t2]⟩, ty, pos, after, guard⟩ = false)
    (h : cT P ops dr K rest (bS R i ⟨r.e, r.sz, r.v, r.n, zs⟩) (s.put (some d) (aV (k : Int)))) : cT P ops dr K (⟨some d, .call ⟨.builtin .copy, #[x, y], #[tt, t2]⟩, ty, pos, after, guard⟩ :: rest) R s := by
  subst hm aZ af he;exact ⟨true, hw, k9 hd, .inr (.inl ⟨rfl, d, _, _, rfl, ⟨.copy i r tt t2 m lo hi x y _ dq (by simpa [Nat.blt_eq] using b0) rfl S.h (.inr (.inr ⟨u, aa, hu⟩)) (.inr ⟨i, r, ey, cw, dq, rfl, ag, Y8, b4, rfl⟩) h1 h2 (fun q al => cC.1 ak q (ob (qd al))), pW⟩, fun aW hv => by subst hv; exact h⟩)⟩
theorem sv {x y : Operand} {st off : Nat} {r : bQ} {z : bK} {eQ : TypeInfo} (i : Nat) (hi : R i = some r) (hw : want ops ⟨none, .store st x y, ty, pos, after, guard⟩ s = some true) (aa : s.look x = some (aR (jJ r.v off))) (ag : s.look y = some (.w z)) (aE : 0 < r.n) (aD : P.info? st = some eQ) (hs : eQ.size = z.cells.length) (ab : off + z.cells.length ≤ r.aU.length) (ak : z.cells.all AC.ba = true)
    (h : cT P ops dr K rest (bS R i ⟨r.e, r.sz, r.v, r.n, er r.aU off z.cells⟩) s) (j1 : Rg dr ⟨none, .store st x y, ty, pos, after, guard⟩ = true := by exact rfl) : cT P ops dr K (⟨none, .store st x y, ty, pos, after, guard⟩ :: rest) R s :=
  ⟨true, hw, (fun d hd => by cases hd), .inr (.inr (.inl ⟨rfl, j1, _, rfl, .store i r off st x y z eQ hi aE rfl aa ag aD hs ab (cC.1 ak), h⟩))⟩
theorem gZ {x : Operand} {lt off : Nat} {r : bQ} {c1 : AC} (i : Nat) [T : gd P lt false 1] (hi : R i = some r) (hw : want ops ⟨some d, .load lt x, ty, pos, after, guard⟩ s = some true) (aa : s.look x = some (aR (jJ r.v off))) (aE : 0 < r.n) (aZ : r.aU[off]? = some c1) (ak : (ai.w (.one c1)).ba = true) (ap : uL ops dr (some d) = true) (hd : Nat.blt d s.n = true) (h : cT P ops dr K rest R (s.put (some d) (.w (.one c1)))) : cT P ops dr K (⟨some d, .load lt x, ty, pos, after, guard⟩ :: rest) R s :=
  zG hw (.load i r off lt x _ hi aE rfl aa (by
    have en := T.h;unfold kE at en;unfold pick;cases hu : P.underlying lt with
    | none => rw [hu] at en; cases en
    | some D =>
      cases gi : P.info? lt with
      | none => rw [hu, gi] at en; cases D <;> simp at en <;> simp [aZ]
      | some eQ =>
        rw [hu, gi] at en;cases D <;> simp at en <;> simp [aZ])) ak ap hd h
theorem aQ {next : aJ → aC → Prop} (h : next R s) : AK next Q .normal R s := h
theorem fb {next : aJ → aC → Prop} {i : Nat} (h : Q (.exit i) R s) : AK next Q (.exit i) R s := h
theorem e7 {next : aJ → aC → Prop} (h : Q .ret R s) : AK next Q .ret R s := h
theorem fi {i : Nat} (h : Q .normal R s) : uK i Q .normal R s := h
theorem iz {i : Nat} (h : Q .ret R s) : uK i Q .ret R s := h
theorem iR {i j : Nat} (ck : Nat.beq j i = false) (h : Q (.exit j) R s) : uK i Q (.exit j) R s := by simp only [uK, ck, cond_false]; exact h
theorem fa {i : Nat} (h : Q .normal R s) : uK i Q (.exit i) R s := by simp only [uK, Nat.beq_refl, cond_true]; exact h
end
section
variable {P : Program} {s : aC} {ops : Array Oper} {K : aC → Prop} {rest : List Oper} {ty : Nat} {pos : String} {after : Array Edge} {guard : Option (Nat × Bool)} {d : Nat}
theorem T0 {fn : Fn} {xs : List Operand} {cs : List AC} (hw : want ops ⟨some d, .makeFunc fn #[] xs.toArray, ty, pos, after, guard⟩ s = some true) (aa : xs.map s.look = cs.map fun x => some (.w (.one x))) (ak : cs.all AC.ba = true) (hd : Nat.blt d s.n = true) (h : bi P ops K rest (s.put (some d) (.w (.one (.p (pt fn cs)))))) : bi P ops K (⟨some d, .makeFunc fn #[] xs.toArray, ty, pos, after, guard⟩ :: rest) s := by
 have hlen : xs.length = cs.length := by have := congrArg List.length aa; simpa using this
 have gr : ∀ (i : Nat) (z : Operand), xs[i]? = some z → ∃ x, cs[i]? = some x ∧ s.look z = some (.w (.one x)) := fun i z aZ => by
  have h1 : (xs.map s.look)[i]? = some (s.look z) := by rw [eJ, aZ]; rfl
  rw [aa, eJ] at h1;cases al : cs[i]? with
  | none => rw [al] at h1; cases h1
  | some x => rw [al] at h1; exact ⟨x, rfl, (mY h1).symm⟩
 refine fY (av := .w (.one (.p (pt fn cs)))) hw ⟨fun _ _ h => (by cases h), fun z aZ => ?_, fun U ad W env he => ⟨.func fn #[] (xs.map env).toArray, ?_, ?_⟩, fun j ae => absurd ae (lP _ j)⟩ hd h
 ·simp [Op.operands] at aZ;obtain ⟨i, hi⟩ := kw aZ;obtain ⟨x, _, h2⟩ := gr i z hi;exact ⟨_, h2⟩
 ·simp [execOp, Instr.makeFunc]
 ·have nX : ∀ (i : Nat) (x : AC) (u : Value), cs[i]? = some x → (xs.map env)[i]? = some u → gI U ad W x u := fun i x u xx hu => by
   rw [eJ] at hu;cases aZ : xs[i]? with
   | none => rw [aZ] at hu; cases hu
   | some z =>
    rw [aZ] at hu;cases hu;obtain ⟨x', h1, h2⟩ := gr i z aZ;rw [xx] at h1;cases h1;exact he z (by simp [Op.operands]; exact dJ aZ) _ h2
  have cW : ∀ x ∈ cs, ∀ j, ¬ x.owns j := fun x aa j => AC.dH (cC.1 ak x aa) j;refine ⟨⟨xs.map env, rfl, ⟨by simpa using hlen.symm, fun i x u xx hu => ?_⟩, cW⟩, ?_⟩
  ·have h1 := nX i x u xx hu;cases x with
   | c y => exact h1
   | own k o => exact absurd rfl (cW _ (dJ xx) k)
   | p R => exact ⟨h1.1, fun _ _ => trivial⟩
  ·rintro b ⟨wq, e, i, x, u, xx, hu, ab⟩;have bz : xs.map env = wq := by simpa using e
   subst bz;have h1 := nX i x u xx hu;cases x with
   | c y => cases ab
   | own k o => cases ab
   | p R => exact h1.2 b ab
end
def tM (s : aC) (k j : Nat) : Bool := !(Nat.beq j k) && (match s.mem j with | some ds => ds.all AC.ba | none => false)
def CM (s : aC) (k : Nat) (cs : List AC) : Option ai → Option ai
 | some (.w (.one (.own j off))) => bif Nat.beq j k then some (.w (.one (.p (FA (cs.drop off))))) else bif tM s k j then some (.w (.one (.own j off))) else none
 | some av => bif av.ba then some av else none
 | none => none
def oI (s : aC) (k : Nat) (cs : List AC) : aC := ⟨s.n, fun t => CM s k cs (s.tmps t), fun j => bif tM s k j then s.mem j else none⟩
theorem GH {s : aC} {k j : Nat} (h : tM s k j = true) : j ≠ k ∧ ∃ ds, s.mem j = some ds ∧ ds.all AC.ba = true := by
 unfold tM at h;simp only [eo, uH] at h;refine ⟨fun e => by subst e; simp at h, ?_⟩;cases hm : s.mem j with
 | none => rw [hm] at h; simp at h
 | some ds => rw [hm] at h; exact ⟨ds, rfl, h.2⟩
theorem WK {s : aC} {k : Nat} {cs : List AC} (ok : s.cV) : (oI s k cs).cV := by
 refine ⟨fun t av j aD ae => ?_, fun i ds x j hi aa ae => ?_⟩
 ·have key : ∀ o, CM s k cs o = some av → ∃ ds, (oI s k cs).mem j = some ds := by
   intro o az;unfold CM at az
   split at az
   ·rename_i e4 off;cases ab : Nat.beq e4 k with
    | true => rw [ab] at az; simp at az; subst az; obtain ⟨y, ag, ae⟩ := ae; simp [bK.cells] at ag; subst ag; cases ae
    | false =>
     rw [ab] at az;cases af : tM s k e4 with
     | false => rw [af] at az; simp at az
     | true =>
      rw [af] at az;simp at az;subst az;obtain ⟨y, ag, ae⟩ := ae;simp [bK.cells] at ag;subst ag;have e : j = e4 := ae;subst e;obtain ⟨_, ds, hm, _⟩ := GH af;exact ⟨ds, by simp only [oI, af, cond_true]; exact hm⟩
   ·rename_i KP _;cases ak : KP.ba with
    | false => rw [ak] at az; simp at az
    | true => rw [ak] at az; simp at az; subst az; exact absurd ae (ai.dH ak j)
   ·cases az
  exact key _ aD
 ·simp only [oI] at hi;cases af : tM s k i with
  | false => rw [af] at hi; simp at hi
  | true =>
   rw [af] at hi;simp at hi;obtain ⟨_, VR, hm, ak⟩ := GH af;rw [hm] at hi;cases hi;exact absurd ae (AC.dH (cC.1 ak x aa) j)
theorem WL {s : aC} {k : Nat} {cs : List AC} {W : World} {A : Nat → Prop} {ad : Nat → Nat} {a : Act} {w : World} (af : s.mem k = some cs) (cW : cs.all AC.ba = true) (aA : Rel (ff.all W) A s ad a w) : Rel (ff.all W) A (oI s k cs) ad a w := by
 have pZ : ∀ j ds, (oI s k cs).mem j = some ds → j ≠ k ∧ s.mem j = some ds := fun j ds ae => by
  simp only [oI] at ae;cases ab : tM s k j with
  | false => rw [ab] at ae; simp at ae
  | true => rw [ab] at ae; simp at ae; exact ⟨(GH ab).1, ae⟩
 have jW : ∀ b, s.free A ad b → (oI s k cs).free A ad b := fun b ab => ⟨ab.1, fun j ds ae => ab.2 j ds (pZ j ds ae).2⟩;obtain ⟨vs, ajm, g1, g2, g3⟩ := aA.dG k cs af
 have Xn : A (ad k) := aA.up _ (by
  have : ¬ ad k < W.heap.size := g3;show W.heap.size ≤ ad k;omega)
 have bj : ad k < w.heap.size := aA.lt af
 have Yf : (oI s k cs).free A ad (ad k) := ⟨Xn, fun j ds ae e => by
  obtain ⟨h1, h2⟩ := pZ j ds ae;exact h1 (aA.inj j k _ _ h2 af e)⟩
 have sk : ∀ y ∈ cs, y.ba = true := cC.1 cW;refine ⟨aA.qb, aA.size, fun t av aD => ?_, fun j ds ae => ?_, fun j e4 c1 c2 h1 h2 e => aA.inj j e4 _ _ (pZ j c1 h1).2 (pZ e4 c2 h2).2 e, aA.below, aA.up, aA.kp⟩
 ·simp only [oI] at aD;cases az : s.tmps t with
  | none => rw [az] at aD; cases aD
  | some o =>
   rw [az] at aD;obtain ⟨v, h1, h2⟩ := aA.hh t o az;refine ⟨v, h1, ?_⟩;have aq : di ((oI s k cs).free A ad) ad w o v := h2.map (fun b ab _ => ⟨jW b ab, rfl⟩) fun _ _ => rfl;unfold CM at aD
   split at aD
   ·rename_i e4 off sr;cases sr;cases ab : Nat.beq e4 k with
    | true =>
     rw [ab] at aD;simp at aD;subst aD;have e : e4 = k := hE ab;subst e;have hv : v = .pointer (some ⟨ad e4, off, none⟩) := h2;subst hv
     have qR : k0 w ⟨ad e4, off, none⟩ (cs.drop off) (vs.drop off) := by
      refine ⟨bj, ⟨by simp [g2.1], fun i x u aa hu => ?_⟩, fun i u hu => ?_, fun y ag => sk y (ob ag)⟩
      ·rw [gF] at aa hu;have cO := g2.2 _ x u aa hu;have XU := sk x (dJ aa);cases x with
       | c y => exact cO
       | own k o => cases XU
       | p S => exact ⟨cO.1, fun _ _ => trivial⟩
      ·rw [gF] at hu;have kP : (⟨ad e4, off, none⟩ : Addr).add i = ⟨ad e4, off + i, none⟩ := by unfold Addr.add; split <;> simp_all
       rw [kP];simp only [World.cell?, g1];simpa using hu
     refine ⟨⟨_, _, rfl, qR⟩, ?_⟩;rintro b ⟨a', e, au⟩;cases e;rcases au with rfl | ⟨i, y, u, ag, hu, gC⟩
     ·exact Yf
     ·rw [gF] at ag;have MX : off + i < vs.length := by rw [← g2.1]; exact (bV.1 ag).1
      have ek := qR.at_ i vs[off + i] (by rw [gF]; exact cl MX);rw [hu] at ek;cases ek;have np := g2.2 _ y _ ag (cl MX);cases y with
      | c y => cases gC
      | own k o => cases gC
      | p S => exact jW b (np.2 b gC)
    | false =>
     rw [ab] at aD;cases nY : tM s k e4 with
     | false => rw [nY] at aD; simp at aD
     | true => rw [nY] at aD; simp at aD; subst aD; exact aq
   ·rename_i KP sr;cases sr;cases ak : ai.ba o with
    | false => rw [ak] at aD; simp at aD
    | true => rw [ak] at aD; simp at aD; subst aD; exact aq
   ·rename_i sr; cases sr
 ·obtain ⟨h1, h2⟩ := pZ j ds ae;obtain ⟨us, afK, q1, q2, cj⟩ := aA.dG j ds h2;exact ⟨us, afK, q1, q2.map (fun b ab _ => ⟨jW b ab, rfl⟩) fun _ _ _ _ => rfl, cj⟩
section
variable {P : Program} {x y : Code} {Q : Exit → aC → Prop} {s : aC}
theorem F3 (h : fI P x Q s) : te P x Q s := fun ok W A ad a w aA => (h ok (ff.all W) A ad a w aA).top
theorem KU (h : te P x (r2 (fun s' => te P y Q s') Q) s) : te P (.seq x y) Q s := by
 intro ok W A ad a w aA;refine wp_seq (wp_mono (h ok W A ad a w aA) ?_);rintro e a' w' ⟨s', bf, dN, cE, al⟩;cases e <;> first | exact al dN W A bf a' w' cE | exact ⟨s', bf, dN, cE, al⟩
theorem KT (k : Nat) (cs : List AC) (af : s.mem k = some cs) (cW : cs.all AC.ba = true) (h : te P x Q (oI s k cs)) : te P x Q s := by
 intro ok W A ad a w aA;exact h (WK ok) W A ad a w (WL af cW aA)
end
def S9 (z n : Nat) (xs : List AC) : fm where
 holds w v := (cA z n xs).holds w v ∧ ∃ A, v = .slice A n n
 lG := (cA z n xs).lG
 frame w w' v := by
  rintro ⟨h1, h2⟩ au;have := (cA z n xs).frame w w' v h1 au;exact ⟨⟨this.1, h2⟩, this.2⟩
 iM w v b := by
  rintro ⟨h1, h2⟩ au;exact (cA z n xs).iM w v b h1 au
 cell w v := by
  rintro ⟨h1, h2⟩;exact (cA z n xs).cell w v h1
theorem li {n : Nat} (h : n ≤ 1000000) : n ≤ maxLen := lT h (by decide)
abbrev Fc (z n : Nat) (xs : List AC) : ai := .w (.one (.p (S9 z n xs)))
section
variable {P : Program} {U : Nat → Prop} {ad : Nat → Nat} {W bq : World}
theorem ET {z n l h c c' : Nat} {xs : List AC} {A : Option Addr} (aa : di U ad W (cU z n xs) (.slice A n c)) (h1 : l ≤ h) (h2 : h ≤ n) (aq : h ≤ c') : di U ad W (cU z (h - l) ((xs.drop (l * z)).take ((h - l) * z))) (sliced A l h c' z) := by
 obtain ⟨⟨eA, kK, aG, ak, ao, dO⟩, dI⟩ := aa;cases aG;have hm : (h - l) * z ≤ n * z - l * z := by rw [← Nat.sub_mul]; exact ky _ (by omega)
 refine ⟨⟨if c' = l then A else A.map (·.add (l * z)), c' - l, rfl, by omega, by rw [eI, jF, ao]; exact qh hm, fun aE => ?_⟩, ?_⟩
 ·obtain ⟨a, vs, rfl, eg⟩ := dO (by omega);have ck : ¬ c' = l := by omega
  rw [if_neg ck];exact ⟨a.add (l * z), _, rfl, eg.sub (l * z) ((h - l) * z)⟩
 ·rintro b ⟨c2, a', q, aE, au⟩;obtain ⟨a, vs, rfl, eg⟩ := dO (by omega);have ck : ¬ c' = l := by omega
  unfold sliced at q;rw [if_neg ck] at q;simp at q;obtain ⟨rfl, _⟩ := q;exact dI b ⟨c, a, rfl, by omega, nn.sub (off := l * z) (n := (h - l) * z) au⟩
theorem Md {z n c : Nat} {xs : List AC} {vs : List Value} {cur : Array Value} {e : TypeId} (ao : bZ U id W xs vs) (cW : ∀ y ∈ xs, y.ba = true) (hlen : xs.length = n * z) (e1 : n ≤ c) (hold : ∀ b, b < W.heap.size → bq.heap[b]? = W.heap[b]?) (p5 : bq.heap[W.heap.size]? = some (.cells cur e (0, 0))) (X2 : cur.toList.take (n * z) = vs) : di (fun b => U b ∨ W.heap.size ≤ b) ad bq (cU z n xs) (.slice (some ⟨W.heap.size, 0, none⟩) n c) := by
 have bj : W.heap.size < bq.heap.size := (ln.1 p5).1;have h4 : bZ U id bq xs vs := ao.map (fun b ab bj => ⟨ab, hold b bj⟩) (fun _ _ _ _ => rfl)
 have gr : ∀ (j : Nat) v, vs[j]? = some v → bq.cell? ((⟨W.heap.size, 0, none⟩ : Addr).add j) = some v := fun j v hv => by
  have kP : (⟨W.heap.size, 0, none⟩ : Addr).add j = ⟨W.heap.size, j, none⟩ := by unfold Addr.add; split <;> simp_all
  rw [kP, cell_of_row bq _ j cur e (0, 0) p5];rw [← X2, List.getElem?_take] at hv
  split at hv
  ·simpa using hv
  ·cases hv
 have qR : k0 bq ⟨W.heap.size, 0, none⟩ xs vs := ⟨bj, h4.map (fun b _ _ => ⟨trivial, rfl⟩) (fun _ _ _ _ => rfl), gr, cW⟩;refine ⟨⟨some ⟨W.heap.size, 0, none⟩, c, rfl, e1, hlen, fun aE => ⟨_, vs, rfl, qR⟩⟩, ?_⟩;rintro b ⟨c', a', q, aE, au⟩;cases q;rcases au with rfl | ⟨j, y, v, ag, hv, gC⟩
 ·exact .inr (dU _)
 ·have ae : j < vs.length := by rw [← ao.1]; exact (bV.1 ag).1
  have h2 := gr j _ (cl ae);rw [hv] at h2;cases h2;have aq := h4.2 j y _ ag (cl ae);cases y with
  | c u => cases gC
  | own k o => cases gC
  | p S => exact .inl (aq.2 b gC)
theorem aex {xs : List AC} {vs : List Value} (h : bZ U ad W xs vs) (ak : ∀ y ∈ xs, y.ba = true) : bZ U id W xs vs :=
 ⟨h.1, fun i x v aa hv => (h.2 i x v aa hv).map (fun b ab _ => ⟨ab, rfl⟩) fun j ae => absurd ae (AC.dH (ak x (dJ aa)) j)⟩
theorem aew {xs aU : List AC} {us vs : List Value} (h1 : bZ U ad W xs us) (h2 : bZ U ad W aU vs) : bZ U ad W (xs ++ aU) (us ++ vs) := by
 refine ⟨by rw [dl, dl, h1.1, h2.1], fun i x v aa hv => ?_⟩;rcases jn i xs.length with bj | lI
 ·rw [gG bj] at aa;rw [gG (by rw [← h1.1]; exact bj)] at hv;exact h1.2 i x v aa hv
 ·rw [gH lI] at aa;rw [gH (by rw [← h1.1]; exact lI), ← h1.1] at hv;exact h2.2 _ x v aa hv
theorem xZ {z n : Nat} {xs : List AC} {v : Value} (h : di U ad W (cU z n xs) v) : ∃ A c vs, v = .slice A n c ∧ n ≤ c ∧ xs.length = n * z ∧ bZ U id W xs vs ∧ (∀ y ∈ xs, y.ba = true) ∧ (∀ b, A = some b → ∀ (j : Nat) u, vs[j]? = some u → W.cell? (b.add j) = some u) ∧ (A = none → n = 0) := by
 rcases vW n with rfl | aE
 ·obtain ⟨⟨A, c, e, ak, ao, dO⟩, dI⟩ := h;have : xs = [] := na (by rw [ao]; simp);subst this;exact ⟨A, c, [], e, ak, ao, ⟨rfl, fun i x v aa => by simp at aa⟩, fun y ag => (by cases ag), fun b _ j u hu => by simp at hu, fun _ => rfl⟩
 ·have aI := h;obtain ⟨b, c, vs, e, ak, ao, gr, p8⟩ := cA.Gc h aE;obtain ⟨⟨A, c', bz, _, _, dO⟩, _⟩ := aI;rw [e] at bz;cases bz;obtain ⟨a, us, iF, eg⟩ := dO aE;exact ⟨some b, c, vs, e, ak, ao, aex p8 eg.pH, eg.pH, fun bT e => by cases e; exact gr, fun e => by cases e⟩
theorem aeC {tt e z n m bytes ty : Nat} {xs aU : List AC} {x y : Value} (aD : vY P tt e z bytes = true) (aa : di U ad W (Fc z n xs) x) (ag : di U ad W (cU z m aU) y) (h1 : n + m ≤ maxLen) (h2 : (n + m) * bytes ≤ 140737488355328) :
  ∃ v bq, (Builtin.append_ #[tt, tt] ty #[x, y]).run P W = .ok v bq ∧ di (fun b => U b ∨ W.heap.size ≤ b) ad bq (cU z (n + m) (xs ++ aU)) v ∧ Below W.heap.size W bq := by
 obtain ⟨eQ, JG, hu, fq, aZ, hN, lc, oV, b0⟩ := rz aD;have kU : di U ad W (cU z n xs) x := ⟨aa.1.1, aa.2⟩;obtain ⟨bU, LG⟩ := aa.1.2;obtain ⟨A, c, us, ex, e1, lf, Nb, CZ, XN, jY⟩ := xZ kU;rw [LG] at ex;cases ex;obtain ⟨Fk, Lt, vs, rfl, ahV, zo, HG, MJ, MF, YD⟩ := xZ ag;subst LG;have GR : n + m ≤ 9223372036854775807 := by simp only [maxLen] at h1; omega
 rcases vW m with rfl | Df
 ·have Zl : aU = [] := na (by rw [zo]; simp);subst Zl;refine ⟨.slice bU n n, W, ?_, ?_, Below.refl _ _⟩
  ·cases bU <;> cases Fk <;> simp [Builtin.append_, run_underlying hu, sizeOf, typeInfo, fq, Builtin.lenOf, Builtin.firstCells, storeCells, loadCells, loadCellsFrom]
  ·rw [Nat.add_zero, qe];exact di.map kU (fun b ab _ => ⟨.inl ab, rfl⟩) fun _ _ => rfl
 ·obtain ⟨a, rfl⟩ : ∃ a, Fk = some a := by
   cases Fk with
   | none => have := YD rfl; omega
   | some a => exact ⟨a, rfl⟩
  have mO : vs.length = m * eQ.size := by rw [hN, ← HG.1]; exact zo
  have cW : ∀ q ∈ xs ++ aU, q.ba = true := fun q al => by
   rcases ms.1 al with h | h
   ·exact CZ q h
   ·exact MJ q h
  have hlen : (xs ++ aU).length = (n + m) * z := by rw [dl, lf, zo, kx]
  cases bU with
  | none =>
   have zu : n = 0 := jY rfl;subst zu;have Dq : xs = [] := na (by rw [lf]; simp);subst Dq;have ap := run_append_nil (P := P) W tt ty e eQ JG hu fq aZ a m Lt vs mO (MF a rfl) Df (by omega) (by rw [lc]; simp only [jr] at h2; omega);refine ⟨_, _, ap, ?_, (Below.drew (Below.refl _ W)).alloc (dU _) _⟩;have Yy : aU.length = (0 + m) * z := by rw [zo, jr]
   rw [List.nil_append];have dn : 0 + m = m := jr m;rw [dn];refine Md (vs := vs) (e := e) HG MJ zo (grownCap_ge _ _ _ _) (fun b ab => by first | exact heap_alloc_old W.drew _ b ab | exact heap_alloc_old W.drew _ ab) (heap_alloc_new W.drew _) ?_;rw [Array.toList_append, List.toList_toArray, AA (by rw [mO, hN]; exact dU _), iy (by rw [mO, hN]; exact dU _)]
  | some b =>
   have xu : us.length = n * eQ.size := by rw [hN, ← Nb.1]; exact lf
   have ap := run_append_grow (P := P) W tt ty e eQ JG hu fq aZ b n n us xu (XN b rfl) a m Lt vs mO (MF a rfl) (by omega) (by omega) (growslice_fits (by omega) (by rw [lc]; exact h2));refine ⟨_, _, ap, ?_, (Below.drew (Below.refl _ W)).alloc (dU _) _⟩;refine Md (vs := us ++ vs) (e := e) (aew Nb HG) cW hlen (grownCap_ge _ _ _ _) (fun b ab => by first | exact heap_alloc_old W.drew _ b ab | exact heap_alloc_old W.drew _ ab) (heap_alloc_new W.drew _) ?_;have nt : (us ++ vs).length = (n + m) * z := by rw [dl, xu, mO, hN, kx]
   rw [Array.toList_append, Array.toList_append, List.toList_toArray, List.toList_toArray, AA (by rw [nt]; exact dU _), iy (by rw [nt]; exact dU _)]
end
section
variable {P : Program} {s : aC} {ops : Array Oper} {K : aC → Prop} {rest : List Oper} {ty : Nat} {pos : String} {after : Array Edge} {guard : Option (Nat × Bool)} {d : Nat}
theorem TE {tt e z n m k bytes : Nat} {x y : Operand} {xs aU zs : List AC} [T : ox P tt e z bytes] (hw : want ops ⟨some d, .call ⟨.builtin .append, #[x, y], #[tt, tt]⟩, ty, pos, after, guard⟩ s = some true) (aa : s.look x = some (Fc z n xs)) (ag : s.look y = some (cU z m aU)) (h1 : n + m ≤ maxLen) (h2 : (n + m) * bytes ≤ 140737488355328) (af : n + m = k) (aZ : xs ++ aU = zs) (hd : Nat.blt d s.n = true) (h : bi P ops K rest (s.put (some d) (cU z k zs))) : bi P ops K (⟨some d, .call ⟨.builtin .append, #[x, y], #[tt, tt]⟩, ty, pos, after, guard⟩ :: rest) s := by
 subst af aZ;refine FW (av := cU z (n + m) (xs ++ aU)) hw ⟨fun q al => ?_, fun j ae => lP _ j ae, fun U ad W env he => ?_⟩ hd h
 ·simp [Op.operands, Call.operands] at al;rcases al with rfl | rfl
  ·exact ⟨_, aa⟩
  ·exact ⟨_, ag⟩
 ·obtain ⟨v, bq, ap, aq, aK⟩ := aeC (ty := ty) T.h (he x (by simp [Op.operands, Call.operands]) _ aa) (he y (by simp [Op.operands, Call.operands]) _ ag) h1 h2;exact ⟨v, bq, by simp only [execOp, resolve, invoke, builtin, Sem.run_bind, Sem.run_pure, Result.andThen_ok, List.map_toArray, lp, List.map_nil, ap], aq, aK⟩
theorem T3 {t sz e bytes : Nat} [S : iC P t sz] [T : ox P t e sz bytes] (hw : want ops ⟨some d, .buildSlice t 0 #[], ty, pos, after, guard⟩ s = some true) (hd : Nat.blt d s.n = true) (h : bi P ops K rest (s.put (some d) (Fc sz 0 []))) : bi P ops K (⟨some d, .buildSlice t 0 #[], ty, pos, after, guard⟩ :: rest) s := by
 refine FW (av := Fc sz 0 []) hw ⟨fun q al => ?_, fun j ae => lP _ j ae, fun U ad W env he => ?_⟩ hd h
 ·simp [Op.operands] at al
 ·obtain ⟨eQ, JG, hu, fq, aZ, hN, lc, oV, b0⟩ := rz T.h;refine ⟨.slice (some ⟨W.heap.size, 0, none⟩) 0 0, W.alloc (.cells #[] e), ?_, ⟨⟨⟨_, 0, rfl, dU _, by simp, fun h => absurd h (Nat.lt_irrefl _)⟩, _, rfl⟩, fun b ⟨c, a, q, aE, _⟩ => absurd aE (Nat.lt_irrefl _)⟩, (Below.refl _ _).alloc (dU _) _⟩;simp [execOp, Instr.buildSlice, Sem.run_bind, run_underlying hu, hV fq, Instr.fill, newRow, newObj, Sem.run, Array.range_zero']
theorem KL {tt z n m : Nat} {x y : Operand} {l : Int} {xs aU : List AC} [S : iC P tt z] (hw : want ops ⟨some d, .slice tt x (some y) none none, ty, pos, after, guard⟩ s = some true) (aa : s.look x = some (cU z n xs)) (ag : s.look y = some (aV l)) (aI : 0 ≤ l) (h1 : l ≤ n) (hm : n - l.toNat = m) (he : (xs.drop (l.toNat * z)).take (m * z) = aU) (hd : Nat.blt d s.n = true) (h : bi P ops K rest (s.put (some d) (cU z m aU))) : bi P ops K (⟨some d, .slice tt x (some y) none none, ty, pos, after, guard⟩ :: rest) s := by
 subst hm he;refine fY (av := cU z (n - l.toNat) ((xs.drop (l.toNat * z)).take ((n - l.toNat) * z))) hw ⟨fun _ _ h => (by cases h), fun q al => ?_, fun U ad W env he => ?_, fun j ae => absurd ae (lP _ j)⟩ hd h
 ·simp [Op.operands] at al;rcases al with rfl | rfl
  ·exact ⟨_, aa⟩
  ·exact ⟨_, ag⟩
 ·have hv := he x (by simp [Op.operands]) _ aa;obtain ⟨A, c, us, ex, e1, _⟩ := xZ hv;rw [ex] at hv;have kM : env y = .int .i64 l := (he y (by simp [Op.operands]) _ ag).1;obtain ⟨bz, fN, hu, dq, hs⟩ := nc S.h;have fr : P.underlying tt = some (.slice (P.elem tt)) := by rw [kL hu]; exact hu
  refine ⟨_, ?_, ET (c' := c) hv (by omega) (by omega) (by omega)⟩;simp only [execOp, ex, hD, sV, kM, Sem.run_bind, run_sliceAt_slice W tt _ _ _ _ fr, run_slice_l W tt A n c fr .i64 l aI h1, kL hu, hV dq, Result.andThen_ok, hs, Sem.run_pure]
theorem ago {tt z n m : Nat} {x y u : Operand} {l r : Int} {xs aU : List AC} [S : iC P tt z] (hw : want ops ⟨some d, .slice tt x (some y) (some u) none, ty, pos, after, guard⟩ s = some true) (aa : s.look x = some (cU z n xs)) (ag : s.look y = some (aV l)) (hu : s.look u = some (aV r)) (aI : 0 ≤ l) (h1 : l ≤ r) (h2 : r ≤ n) (hm : r.toNat - l.toNat = m) (he : (xs.drop (l.toNat * z)).take (m * z) = aU) (hd : Nat.blt d s.n = true) (h : bi P ops K rest (s.put (some d) (cU z m aU))) : bi P ops K (⟨some d, .slice tt x (some y) (some u) none, ty, pos, after, guard⟩ :: rest) s := by
 subst hm he;refine fY (av := cU z (r.toNat - l.toNat) ((xs.drop (l.toNat * z)).take ((r.toNat - l.toNat) * z))) hw ⟨fun _ _ h => (by cases h), fun q al => ?_, fun U ad W env he => ?_, fun j ae => absurd ae (lP _ j)⟩ hd h
 ·simp [Op.operands] at al;rcases al with rfl | rfl | rfl
  ·exact ⟨_, aa⟩
  ·exact ⟨_, ag⟩
  ·exact ⟨_, hu⟩
 ·have hv := he x (by simp [Op.operands]) _ aa;obtain ⟨A, c, us, ex, e1, _⟩ := xZ hv;rw [ex] at hv;have kM : env y = .int .i64 l := (he y (by simp [Op.operands]) _ ag).1;have sd : env u = .int .i64 r := (he u (by simp [Op.operands]) _ hu).1;obtain ⟨bz, fN, hu, dq, hs⟩ := nc S.h;have fr : P.underlying tt = some (.slice (P.elem tt)) := by rw [kL hu]; exact hu
  refine ⟨_, ?_, ET (c' := c) hv (by omega) (by omega) (by omega)⟩;simp only [execOp, ex, hD, sV, kM, sd, Sem.run_bind, run_sliceAt_slice W tt _ _ _ _ fr, run_slice_lh W tt A n c fr .i64 .i64 l r aI h1 (by omega), kL hu, hV dq, Result.andThen_ok, hs, Sem.run_pure]
theorem FY {tt z n m : Nat} {x y u : Operand} {r k : Int} {xs aU : List AC} [S : iC P tt z] (hw : want ops ⟨some d, .slice tt x none (some y) (some u), ty, pos, after, guard⟩ s = some true) (aa : s.look x = some (cU z n xs)) (ag : s.look y = some (aV r)) (hu : s.look u = some (aV k)) (aI : 0 ≤ r) (h1 : r ≤ k) (h2 : k ≤ n) (hm : r.toNat - 0 = m) (he : (xs.drop (0 * z)).take (m * z) = aU) (hd : Nat.blt d s.n = true) (h : bi P ops K rest (s.put (some d) (cU z m aU))) : bi P ops K (⟨some d, .slice tt x none (some y) (some u), ty, pos, after, guard⟩ :: rest) s := by
 subst hm he;refine fY (av := cU z (r.toNat - 0) ((xs.drop (0 * z)).take ((r.toNat - 0) * z))) hw ⟨fun _ _ h => (by cases h), fun q al => ?_, fun U ad W env he => ?_, fun j ae => absurd ae (lP _ j)⟩ hd h
 ·simp [Op.operands] at al;rcases al with rfl | rfl | rfl
  ·exact ⟨_, aa⟩
  ·exact ⟨_, ag⟩
  ·exact ⟨_, hu⟩
 ·have hv := he x (by simp [Op.operands]) _ aa;obtain ⟨A, c, us, ex, e1, _⟩ := xZ hv;rw [ex] at hv;have kM : env y = .int .i64 r := (he y (by simp [Op.operands]) _ ag).1;have sd : env u = .int .i64 k := (he u (by simp [Op.operands]) _ hu).1;obtain ⟨bz, fN, hu, dq, hs⟩ := nc S.h;have fr : P.underlying tt = some (.slice (P.elem tt)) := by rw [kL hu]; exact hu
  refine ⟨_, ?_, ET (c' := k.toNat) hv (by omega) (by omega) (by omega)⟩;simp only [execOp, ex, hD, sV, kM, sd, Sem.run_bind, run_sliceAt_slice W tt _ _ _ _ fr, run_slice_hm W tt A n c fr .i64 .i64 r k aI h1 (by omega), kL hu, hV dq, Result.andThen_ok, hs, Sem.run_pure]
theorem FZ {tt z n m : Nat} {x y u q : Operand} {l r k : Int} {xs aU : List AC} [S : iC P tt z] (hw : want ops ⟨some d, .slice tt x (some y) (some u) (some q), ty, pos, after, guard⟩ s = some true) (aa : s.look x = some (cU z n xs)) (ag : s.look y = some (aV l)) (hu : s.look u = some (aV r)) (al : s.look q = some (aV k)) (aI : 0 ≤ l) (h1 : l ≤ r) (h2 : r ≤ k) (aq : k ≤ n) (hm : r.toNat - l.toNat = m) (he : (xs.drop (l.toNat * z)).take (m * z) = aU) (hd : Nat.blt d s.n = true) (h : bi P ops K rest (s.put (some d) (cU z m aU))) : bi P ops K (⟨some d, .slice tt x (some y) (some u) (some q), ty, pos, after, guard⟩ :: rest) s := by
 subst hm he;refine fY (av := cU z (r.toNat - l.toNat) ((xs.drop (l.toNat * z)).take ((r.toNat - l.toNat) * z))) hw ⟨fun _ _ h => (by cases h), fun q al => ?_, fun U ad W env he => ?_, fun j ae => absurd ae (lP _ j)⟩ hd h
 ·simp [Op.operands] at al;rcases al with rfl | rfl | rfl | rfl
  ·exact ⟨_, aa⟩
  ·exact ⟨_, ag⟩
  ·exact ⟨_, hu⟩
  ·exact ⟨_, al⟩
 ·have hv := he x (by simp [Op.operands]) _ aa;obtain ⟨A, c, us, ex, e1, _⟩ := xZ hv;rw [ex] at hv;have kM : env y = .int .i64 l := (he y (by simp [Op.operands]) _ ag).1;have sd : env u = .int .i64 r := (he u (by simp [Op.operands]) _ hu).1;have eq : env q = .int .i64 k := (he q (by simp [Op.operands]) _ al).1;obtain ⟨bz, fN, hu, dq, hs⟩ := nc S.h;have fr : P.underlying tt = some (.slice (P.elem tt)) := by rw [kL hu]; exact hu
  refine ⟨_, ?_, ET (c' := k.toNat) hv (by omega) (by omega) (by omega)⟩;simp only [execOp, ex, hD, sV, kM, sd, eq, Sem.run_bind, run_sliceAt_slice W tt _ _ _ _ fr, run_slice_lhm W tt A n c fr .i64 .i64 .i64 l r k aI h1 h2 (by omega), kL hu, hV dq, Result.andThen_ok, hs, Sem.run_pure]
end
def bM : List (Int × Int) → List AC
 | [] => []
 | p :: l => .c (.int .i64 p.1) :: .c (.int .i64 p.2) :: bM l
abbrev hW (l : List (Int × Int)) : ai := cU 2 l.length (bM l)
theorem NL : ∀ (l : List (Int × Int)) (i : Nat) (p : Int × Int), l[i]? = some p → ((bM l).drop (i * 2)).take 2 = [.c (.int .i64 p.1), .c (.int .i64 p.2)]
 | [], i, p, h => by simp at h
 | q :: l, 0, p, h => by simp at h; subst h; simp [bM]
 | q :: l, i + 1, p, h => by
  have e : (i + 1) * 2 = i * 2 + 1 + 1 := by omega
  rw [e];simp only [bM, List.drop_succ_cons];exact NL l i p (by simpa using h)
theorem vK {l : List (Int × Int)} {j : Int} {i : Nat} {x y : Int} (ae : j = i) (h : l[i]? = some (x, y)) : ((bM l).drop (j.toNat * 2)).take 2 = [.c (.int .i64 x), .c (.int .i64 y)] := by
 subst ae;exact NL l i (x, y) h
theorem lM : ∀ (l : List (Int × Int)), (bM l).length = l.length * 2
 | [] => rfl
 | p :: l => by simp only [bM, mq, lM l]; omega
theorem oZ : ∀ (l m : List (Int × Int)), bM (l ++ m) = bM l ++ bM m
 | [], _ => rfl
 | p :: l, m => by simp only [List.cons_append, bM, oZ l m]
theorem vJ : ∀ (l : List (Int × Int)), (bM l).all AC.ba = true
 | [] => rfl
 | p :: l => by simp only [bM, kA, vJ l]; rfl
def cB (l : List Int) : List AC := l.map fun x => .c (.int .i64 x)
abbrev lu (l : List Int) : ai := cU 1 l.length (cB l)
theorem zR {l : List Int} {j : Int} {i : Nat} {x : Int} (ae : j = i) (h : l[i]? = some x) : ((cB l).drop (j.toNat * 1)).take 1 = [.c (.int .i64 x)] := by
 subst ae;have hi := (bV.1 h).1;rw [kW, Nat.mul_one, mr (by simpa [cB] using hi)];have : l[i] = x := (bV.1 h).2;simp [cB, this]
theorem Dv (l m : List Int) : cB (l ++ m) = cB l ++ cB m := by simp [cB]
instance aid : ox Tryz.prog 51 3 1 8 := ⟨by kernel_rfl⟩
def yv (x y z w : Int) (fx fy : Bool) : Bool := if x < z then !fx else if z < x then fx else if y < w then !fy else decide (w < y) && fy
end Go.Proofs.YtpochbhajmbfdaaGreat
namespace Go.Proofs.YtpochbhajmbfdaaGreat
abbrev an := Int × Int
def dL (fx fy : Bool) (p q : an) : Bool := yv p.1 p.2 q.1 q.2 fx fy
theorem yt {fx fy : Bool} {p q : an} : dL fx fy p q = true ↔ (if fx then q.1 < p.1 else p.1 < q.1) ∨ (p.1 = q.1 ∧ if fy then q.2 < p.2 else p.2 < q.2) := by unfold dL yv; grind
theorem yu {fx fy : Bool} {p q r : an} (h1 : dL fx fy p q = true) (h2 : dL fx fy q r = true) : dL fx fy p r = true := by
 rw [yt] at *;cases fx <;> cases fy <;> simp at * <;> omega
theorem KB {fx fy : Bool} {p : an} : dL fx fy p p = false := by
 cases h : dL fx fy p p with
 | false => rfl
 | true => rw [yt] at h; cases fx <;> cases fy <;> simp at h
theorem KA {fx fy : Bool} {p q : an} (h1 : dL fx fy p q = true) : dL fx fy q p = false := by
 cases h : dL fx fy q p with
 | false => rfl
 | true => have := yu h1 h; rw [KB] at this; cases this
theorem FT {fx fy : Bool} {p q : an} (h : p ≠ q) : dL fx fy p q = true ∨ dL fx fy q p = true := by
 rw [yt, yt]
 have : p.1 ≠ q.1 ∨ p.2 ≠ q.2 := by
  by_cases h1 : p.1 = q.1
  ·exact .inr fun h2 => h (Prod.ext h1 h2)
  ·exact .inl h1
 cases fx <;> cases fy <;> simp <;> omega
def kg (fx fy : Bool) (l : List an) : Prop := l.Pairwise fun p q => dL fx fy p q = true
theorem KO {fx fy : Bool} : ∀ {l m : List an}, kg fx fy l → kg fx fy m → l.Perm m → l = m
 | [], m, _, _, hp => by have := hp.nil_eq; exact this
 | p :: l, [], _, _, hp => by have := hp.length_eq; simp at this
 | p :: l, q :: m, ao, hm, hp => by
  have h1 := js.1 ao;have h2 := js.1 hm
  have e : p = q := by
   rcases hf.1 (hp.mem_iff.1 (lS ..) : p ∈ q :: m) with h | h
   ·exact h
   ·rcases hf.1 (hp.mem_iff.2 (lS ..) : q ∈ p :: l) with aF | aF
    ·exact aF.symm
    ·have a := h1.1 q aF;have b := h2.1 p h;rw [KA a] at b; cases b
  subst e;rw [KO h1.2 h2.2 (List.perm_cons p |>.1 hp)]
def mh (fx fy : Bool) (q : an) : List an → List an
 | [] => [q]
 | p :: l => if dL fx fy q p then q :: p :: l else p :: mh fx fy q l
theorem zS (fx fy : Bool) (q : an) : ∀ l, (mh fx fy q l).Perm (q :: l)
 | [] => .refl _
 | p :: l => by
  unfold mh
  split
  ·exact .refl _
  ·exact ((zS fx fy q l).cons p).trans (.swap q p l)
theorem NH {fx fy : Bool} {q : an} : ∀ {l : List an}, kg fx fy l → q ∉ l → kg fx fy (mh fx fy q l)
 | [], _, _ => by unfold mh kg; simp
 | p :: l, h, aE => by
  have ak := js.1 h;unfold mh
  split
  ·rename_i al;refine js.2 ⟨fun r ap => ?_, h⟩;rcases hf.1 ap with rfl | ap
   ·exact al
   ·exact yu al (ak.1 r ap)
  ·rename_i al;refine js.2 ⟨fun r ap => ?_, NH ak.2 fun aF => aE (qc _ aF)⟩;rcases hf.1 ((zS fx fy q l).mem_iff.1 ap) with rfl | ap
   ·rcases FT (fx := fx) (fy := fy) (p := p) (q := r) (fun e => aE (by rw [e]; exact lS ..)) with aF | aF
    ·exact aF
    ·exact absurd aF al
   ·exact ak.1 r ap
def rC (fx fy : Bool) (f : an → Bool) (l : List an) : List an := l.foldl (fun out q => if f q then mh fx fy q out else out) []
theorem EV (fx fy : Bool) (f : an → Bool) (l : List an) : (rC fx fy f l).Perm (l.filter f) := by
 have key : ∀ (l out : List an), (l.foldl (fun out q => if f q then mh fx fy q out else out) out).Perm (out ++ l.filter f) := by
  intro l
  induction l with
  | nil => intro out; simp
  | cons q l cF =>
   intro out;rw [List.foldl_cons, List.filter_cons]
   by_cases al : f q = true
   ·rw [if_pos al, if_pos al];refine (cF _).trans ?_;refine ((zS fx fy q out).append_right _).trans ?_;exact List.perm_middle.symm
   ·rw [if_neg al, if_neg al]; exact cF out
 exact key l []
theorem afp (fx fy : Bool) (f : an → Bool) (l : List an) : (rC fx fy f l).length ≤ l.length := by
 rw [(EV fx fy f l).length_eq]; exact List.length_filter_le _ _
theorem afn (fx fy : Bool) (f : an → Bool) {l : List an} (aE : l.Nodup) : kg fx fy (rC fx fy f l) := by
 have key : ∀ (l out : List an), kg fx fy out → (out ++ l).Nodup → kg fx fy (l.foldl (fun out q => if f q then mh fx fy q out else out) out) := by
  intro l
  induction l with
  | nil => intro out h _; exact h
  | cons q l cF =>
   intro out h hd;have hm := List.nodup_append.1 hd;have al : q ∉ out := fun lJ => hm.2.2 q lJ q (lS ..) rfl;rw [List.foldl_cons]
   by_cases au : f q = true
   ·rw [if_pos au];refine cF _ (NH h al) ?_;have hp : (mh fx fy q out ++ l).Perm (out ++ q :: l) := ((zS fx fy q out).append_right l).trans List.perm_middle.symm;exact hp.nodup_iff.2 hd
   ·rw [if_neg au];refine cF _ h ?_;exact hd.sublist (List.Sublist.append_left (List.sublist_cons_self q l) out)
 exact key l [] List.Pairwise.nil (by simpa using aE)
theorem IA (lt : an → an → Bool) : ∀ a b, (e6 lt a b).Perm (a ++ b) := by
 intro a b
 induction a, b using e6.induct lt with
 | case1 b => simp [e6]
 | case2 x a => simp [e6]
 | case3 x a y b h cF =>
  rw [e6, if_pos h];exact (cF.cons y).trans List.perm_middle.symm
 | case4 x a y b h cF =>
  rw [e6, if_neg h];exact cF.cons x
theorem abh {fx fy : Bool} : ∀ a b, kg fx fy a → kg fx fy b → (a ++ b).Nodup → kg fx fy (e6 (dL fx fy) a b) := by
 intro a b
 induction a, b using e6.induct (dL fx fy) with
 | case1 b => intro _ h _; simpa [e6] using h
 | case2 x a => intro h _ _; simpa [e6] using h
 | case3 x a y b h cF =>
  intro aL ab hd;rw [e6, if_pos h];have CY := js.1 ab;have eC := js.1 aL;have sn : (x :: a ++ b).Nodup := hd.sublist (List.Sublist.append_left (List.sublist_cons_self y b) (x :: a));refine js.2 ⟨fun r ap => ?_, cF aL CY.2 sn⟩;rcases ms.1 ((IA _ _ _).mem_iff.1 ap) with ap | ap
  ·rcases hf.1 ap with rfl | ap
   ·exact h
   ·exact yu h (eC.1 r ap)
  ·exact CY.1 r ap
 | case4 x a y b h cF =>
  intro aL ab hd;rw [e6, if_neg h];have CY := js.1 ab;have eC := js.1 aL;have lh : x ≠ y := fun e => (List.nodup_append.1 hd).2.2 x (lS ..) y (lS ..) e;have bj : dL fx fy x y = true := (FT lh).resolve_right h;have sn : (a ++ y :: b).Nodup := (List.nodup_cons.1 hd).2;refine js.2 ⟨fun r ap => ?_, cF eC.2 ab sn⟩;rcases ms.1 ((IA _ _ _).mem_iff.1 ap) with ap | ap
  ·exact eC.1 r ap
  ·rcases hf.1 ap with rfl | ap
   ·exact bj
   ·exact yu bj (CY.1 r ap)
theorem AY (lt : an → an → Bool) : ∀ (N : Nat) (l : List an), l.length ≤ N → (iU lt l).Perm l
 | N, l, h => by
  by_cases q : l.length < 2
  ·rw [iU, dif_pos q]
  ·match N with
   | 0 => omega
   | N + 1 =>
    rw [iU, dif_neg q];refine (IA lt _ _).trans ?_;refine ((AY lt N _ (by simp; omega)).append (AY lt N _ (by simp; omega))).trans ?_;rw [j9]
theorem Js {fx fy : Bool} : ∀ (N : Nat) (l : List an), l.length ≤ N → l.Nodup → kg fx fy (iU (dL fx fy) l)
 | N, l, h, hd => by
  by_cases q : l.length < 2
  ·rw [iU, dif_pos q]
   match l, q with
   | [], _ => exact .nil
   | [x], _ => unfold kg; simp
   | x :: y :: l, q => exact absurd q (by simp)
  ·match N with
   | 0 => omega
   | N + 1 =>
    rw [iU, dif_neg q];refine abh _ _ (Js N _ (by simp; omega) (hd.sublist (List.take_sublist _ _))) (Js N _ (by simp; omega) (hd.sublist (List.drop_sublist _ _))) ?_;have hp := (AY (dL fx fy) N (l.take (l.length / 2)) (by simp; omega)).append (AY (dL fx fy) N (l.drop (l.length / 2)) (by simp; omega));rw [j9] at hp;exact hp.nodup_iff.2 hd
theorem afv {fx fy : Bool} {f : an → Bool} {l m : List an} (aE : l.Nodup) (hp : m.Perm (l.filter f)) : iU (dL fx fy) m = rC fx fy f l :=
 KO (Js _ m (dU _) (hp.nodup_iff.2 (aE.sublist List.filter_sublist))) (afn fx fy f aE) ((AY _ _ m (dU _)).trans (hp.trans (EV fx fy f l).symm))
end Go.Proofs.YtpochbhajmbfdaaGreat
namespace Go.Proofs.YtpochbhajmbfdaaGreat
open Go.RowKit
def A2 (P : Program) (qP : TypeId) (agg : Bool) (n : Nat) : Bool := match kE P qP with
 | some (b, m) => Bool.beq b agg && Nat.beq m n
 | none => false
where Bool.beq : Bool → Bool → Bool
 | true, true => true
 | false, false => true
 | _, _ => false
def GC (P : Program) (ty i off : Nat) (agg : Bool) (n : Nat) : Bool := match P.underlying ty with
 | some (.struct bm) => match bm[i]? with
  | some f => Nat.beq f.offset off && A2 P f.type agg n
  | none => false
 | _ => false
def H0 (P : Program) (ty len : Nat) (agg : Bool) (n : Nat) : Bool := match P.underlying ty with
 | some (.array l e) => Nat.beq l len && A2 P e agg n && (match P.info? e with | some t => Nat.beq t.size n | none => false)
 | _ => false
class JS (P : Program) (ty i : Nat) (off : outParam Nat) (agg : outParam Bool) (n : outParam Nat) : Prop where
 h : GC P ty i off agg n = true
class JV (P : Program) (ty : Nat) (len : outParam Nat) (agg : outParam Bool) (n : outParam Nat) : Prop where
 h : H0 P ty len agg n = true
section
variable {P : Program}
theorem Rv {qP n : Nat} {agg : Bool} (h : A2 P qP agg n = true) : kE P qP = some (agg, n) := by
 unfold A2 at h
 split at h
 ·rename_i b m ab;rw [eo] at h;have e := hE h.2;have aO : b = agg := by cases b <;> cases agg <;> simp [A2.Bool.beq] at h ⊢
  rw [ab, e, aO]
 ·cases h
theorem QZ {qP n off : Nat} {cs : List Value} {v : Value} {W : World} (h : kE P qP = some (false, n)) (hv : cs[off]? = some v) : (part qP cs.toArray off).run P W = .ok v W := by
 unfold kE at h;cases hu : P.underlying qP with
 | none => rw [hu] at h; cases h
 | some D =>
  have h1 : (isAgg qP).run P W = .ok false W := by
   unfold isAgg;simp only [Sem.run_bind, run_underlying hu, Result.andThen_ok];cases hi : P.info? qP with
   | none => rw [hu, hi] at h; cases D <;> first | rfl | (cases h)
   | some eQ => rw [hu, hi] at h; cases D <;> first | rfl | (cases h)
  unfold part;simp only [Sem.run_bind, h1, Result.andThen_ok, od, if_false, List.getElem?_toArray, hv, Sem.run_pure]
variable {s : aC} {ops : Array Oper} {K : aC → Prop} {rest : List Oper} {ty : Nat} {pos : String} {after : Array Edge} {guard : Option (Nat × Bool)} {d : Nat}
theorem WI {dc i off n : Nat} {agg : Bool} (h : GC P dc i off agg n = true) : ∃ bm f, P.underlying dc = some (.struct bm) ∧ bm[i]? = some f ∧ f.offset = off ∧ kE P f.type = some (agg, n) := by
 unfold GC at h
 split at h
 ·rename_i bm hu
  split at h
  ·rename_i f au;rw [eo] at h;exact ⟨bm, f, hu, au, hE h.1, Rv h.2⟩
  ·cases h
 ·cases h
theorem ZG {dc len n : Nat} {agg : Bool} (h : H0 P dc len agg n = true) : ∃ e t, P.underlying dc = some (.array len e) ∧ P.info? e = some t ∧ t.size = n ∧ kE P e = some (agg, n) := by
 unfold H0 at h
 split at h
 ·rename_i l e hu;simp only [eo] at h;obtain ⟨⟨h1, h2⟩, aq⟩ := h
  split at aq
  ·rename_i t aD;exact ⟨e, t, by rw [hu, hE h1], aD, hE aq, Rv h2⟩
  ·cases aq
 ·cases h
theorem TQ {x : Operand} {dc i off n : Nat} {xs : List AC} {y : AC} [F : JS P dc i off false n] (hw : want ops ⟨some d, .field dc x i, ty, pos, after, guard⟩ s = some true) (aa : s.look x = some (.w (.agg xs))) (ak : xs[off]? = some y) (hd : Nat.blt d s.n = true) (h : bi P ops K rest (s.put (some d) (.w (.one y)))) : bi P ops K (⟨some d, .field dc x i, ty, pos, after, guard⟩ :: rest) s := by
 refine fY hw ⟨fun _ _ h => (by cases h), fun z aZ => ?_, fun U ad W env he => ?_, fun j ae => ⟨x, by simp [Op.operands], _, aa, ?_⟩⟩ hd h
 ·simp [Op.operands] at aZ;subst aZ;exact ⟨_, aa⟩
 ·obtain ⟨vs, aG, ao⟩ := he x (by simp [Op.operands]) _ aa;obtain ⟨bm, f, hu, au, az, en⟩ := WI F.h;have bj : off < vs.length := by rw [← ao.1]; exact (bV.1 ak).1
  refine ⟨vs[off], ?_, ao.2 off y _ ak (cl bj)⟩;simp only [execOp, Instr.field, aG, Sem.run_bind, run_underlying hu, Result.andThen_ok, au, asAgg, Sem.run_pure, az, QZ en (cl bj)]
 ·obtain ⟨z, aZ, zP⟩ := ae;simp [bK.cells] at aZ;subst aZ;exact ⟨z, dJ ak, zP⟩
theorem TV {x y : Operand} {dc len n : Nat} {ha : IntKind} {i : Int} {xs : List AC} {z : AC} [A : JV P dc len false n] (hw : want ops ⟨some d, .index dc x y, ty, pos, after, guard⟩ s = some true) (aa : s.look x = some (.w (.agg xs))) (ag : s.look y = some (aR (.int ha i))) (aI : 0 ≤ i) (h1 : i < len) (ak : xs[i.toNat * n]? = some z) (hd : Nat.blt d s.n = true) (h : bi P ops K rest (s.put (some d) (.w (.one z)))) : bi P ops K (⟨some d, .index dc x y, ty, pos, after, guard⟩ :: rest) s := by
 refine fY hw ⟨fun _ _ h => (by cases h), fun z aZ => ?_, fun U ad W env he => ?_, fun j ae => ⟨x, by simp [Op.operands], _, aa, ?_⟩⟩ hd h
 ·simp [Op.operands] at aZ;rcases aZ with rfl | rfl
  ·exact ⟨_, aa⟩
  ·exact ⟨_, ag⟩
 ·obtain ⟨vs, aG, ao⟩ := he x (by simp [Op.operands]) _ aa;have hi : env y = .int ha i := (he y (by simp [Op.operands]) _ ag).1;obtain ⟨e, t, hu, aD, hs, en⟩ := ZG A.h;have bj : i.toNat * n < vs.length := by rw [← ao.1]; exact (bV.1 ak).1
  refine ⟨vs[i.toNat * n], ?_, ao.2 _ z _ ak (cl bj)⟩;simp only [execOp, Instr.index, aG, hi, asIntOf, Sem.run_bind, Sem.run_pure, Result.andThen_ok, run_underlying hu, if_pos (And.intro aI h1), hV aD, hs, QZ en (cl bj)]
 ·obtain ⟨u, hu, Y9⟩ := ae;simp [bK.cells] at hu;subst hu;exact ⟨u, dJ ak, Y9⟩
theorem TM {dc dK : Nat} {x y : Operand} {a b : Bool} (hw : want ops ⟨some d, .binOp .eql dc x y dK, ty, pos, after, guard⟩ s = some true) (aa : s.look x = some (bD a)) (ag : s.look y = some (bD b)) (hd : Nat.blt d s.n = true) (hu : P.underlying dc = some .bool) (h : bi P ops K rest (s.put (some d) (bD (a == b)))) : bi P ops K (⟨some d, .binOp .eql dc x y dK, ty, pos, after, guard⟩ :: rest) s :=
 fK hw aa ag rfl rfl (fun W => rfl) (fun W => run_eql_bool W dc a b hu) rfl hd h
end
theorem P0 {P : Program} {f : FuncId} {args r0 : List ai} {r : ai} (h : aT P f args r) (jR : r0.all ai.ba = true) (ao : r0.length = args.length) (hle : ∀ (i : Nat) x y, r0[i]? = some x → args[i]? = some y → x.br y) : aT P f r0 r :=
 ⟨fun x aa => ai.dH (cC.1 jR x aa), h.ct, fun U W vs dT => h.call U W vs ⟨by rw [← ao]; exact dT.1, fun i y v ag hv => by
  have hi : i < r0.length := by rw [ao]; exact (bV.1 ag).1
  exact hle i _ y (cl hi) ag U id W v (dT.2 i _ v (cl hi) hv)⟩⟩
abbrev JB : ai := aR (.slice none 0 0)
theorem nil_le (z : Nat) : JB.br (cU z 0 []) := fun U ad W v h => by
 obtain ⟨rfl, _⟩ := h;exact ⟨⟨none, 0, rfl, dU _, by simp, fun h => absurd h (Nat.lt_irrefl _)⟩, fun b ⟨c, a, q, aE, _⟩ => absurd aE (Nat.lt_irrefl _)⟩
end Go.Proofs.YtpochbhajmbfdaaGreat
