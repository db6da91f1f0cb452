/-
  My own texts, without what this claim does not need. My own text.
-/
import Derived.Laws.Slices
import Derived.Test.YtbcecodakfejaaaGreatSApartK4
set_option maxRecDepth 100000
set_option maxHeartbeats 64000000
set_option linter.unusedVariables false
set_option linter.unusedSimpArgs false
set_option linter.unusedSectionVars false
namespace Go.Proofs.YtbcecodakfejaaaGreat
open Go.RowKit
abbrev Mem := Nat → Option (List AC)
def bW : Mem := fun _ => none
def ea (ad : Nat → Nat) (m : Mem) (R : aG) (b : Nat) : Prop := (∃ k cs, m k = some cs ∧ ad k = b) ∨ ∃ i r, R i = some r ∧ r.own b
structure eS (U : Nat → Prop) (ad : Nat → Nat) (W : World) (m : Mem) (R : aG) : Prop where
  dt : ∀ k cs, m k = some cs → ∃ (vs : List Value) (ty : TypeId), W.heap[ad k]? = some (.cells vs.toArray ty (0, 0)) ∧ bH U ad W cs vs ∧ ¬ U (ad k)
  fs : ∀ k cs x j, m k = some cs → x ∈ cs → x.owns j → ∃ aq, m j = some aq
  inj : ∀ k k' cs aq, m k = some cs → m k' = some aq → ad k = ad k' → k = k'
  rows : ∀ i r, R i = some r → r.ok U ad W ∧ (∀ y ∈ r.aO, y.aV = true) ∧ ∀ g, r.own g → ¬ U g ∧ ∀ k cs, m k = some cs → ad k ≠ g
  apart : ∀ i j r q, R i = some r → R j = some q → i ≠ j → ∀ g, r.own g → ¬ q.own g
def Gt (ad : Nat → Nat) (W : World) (m : Mem) (R : aG) : eP := ⟨W, fun b => b < W.heap.size ∧ ¬ ea ad m R b, fun _ h => h.1, fun _ => none, []⟩
def bJ {α : Type} (f g : Nat → Option α) : Nat → Option α := fun j => match f j with
  | some x => some x
  | none => g j
theorem jE {α : Type} {f g : Nat → Option α} {j : Nat} {x : α} (h : bJ f g j = some x) : f j = some x ∨ (f j = none ∧ g j = some x) := by
  unfold bJ at h;cases ap : f j with
  | some y => rw [ap] at h; exact .inl h
  | none => rw [ap] at h; exact .inr ⟨rfl, h⟩
theorem hk {α : Type} {f g : Nat → Option α} {j : Nat} {x : α} (h : f j = some x) : bJ f g j = some x := by unfold bJ; rw [h]
theorem hn {α : Type} {f g : Nat → Option α} {j : Nat} (h : f j = none) : bJ f g j = g j := by unfold bJ; rw [h]
structure cY (P : Program) (f : FuncId) (args : List ah) (m0 : Mem) (R0 : aG) (Post : ah → Mem → aG → Prop) : Prop where
  call : ∀ (U : Nat → Prop) (ad : Nat → Nat) (W : World) (vs : List Value), eS U ad W m0 R0 → (∀ x ∈ args, ∀ j, x.owns j → ∃ cs, m0 j = some cs) → jR U ad W args vs →
    Calls P f vs.toArray W fun e bb => ∃ v r aD aw aY cq, e = .returned v ∧ Post r aD aw ∧ eS cq aY bb aD aw ∧ cR cq aY bb r v ∧ (∀ j, r.owns j → ∃ cs, aD j = some cs) ∧
      (∀ k cs, m0 k = some cs → aY k = ad k ∧ ∃ aq, aD k = some aq) ∧ (∀ i r, R0 i = some r → ∃ aT, aw i = some aT) ∧
      (∀ b, cq b → U b ∨ W.heap.size ≤ b ∨ ea ad m0 R0 b) ∧ (∀ b, ea aY aD aw b → ea ad m0 R0 b ∨ W.heap.size ≤ b) ∧ jO (Gt ad W m0 R0) bb
section
variable {P : Program} {B bo : eP} {A bG : Nat → Prop} {s : az} {ad : Nat → Nat} {a : Act} {w : World} {o : Oper} {R : aG} {Q : Exit → Act → World → Prop}
theorem oT.U1 {U : Nat → Prop} {v : Value} {fn : Fn} {cs : List AC} (h : gd U ad w (.p (oT fn cs)) v) : ∃ vs : List Value, v = .func fn #[] vs.toArray ∧ ∀ aY, bH U aY w cs vs := by
  obtain ⟨⟨vs, rfl, hl, aj⟩, ap⟩ := h;refine ⟨vs, rfl, fun aY => ⟨hl.1, fun i x u aa hu => ?_⟩⟩;have h := hl.2 i x u aa hu;cases x with
  | c y => exact h
  | own k o => exact absurd rfl (aj _ (c5 aa) k)
  | p R => exact ⟨h.1, fun b ab => ap b ⟨vs, rfl, i, _, u, aa, hu, ab⟩⟩
theorem sg.run {f : FuncId} {args : List ah} (aj : sg P s.look o f args) (ar : Rel B A s ad a w) : ∃ us : List Value, jR (s.free A ad) ad w args us ∧ (execOp a.eval o).run P w = .ok (.enter f us.toArray) w := by
  obtain ⟨⟨c, g, ay, yn, aR⟩, ys⟩ := aj;rcases aR with ⟨bs, ao, od, wo⟩ | ⟨cs, ao, od⟩
  · have km : a.eval g = .func (.func f) bs.toArray #[] := (ar.look ao).1
    refine ⟨bs ++ c.args.toList.map a.eval, ?_, ?_⟩
    · refine ⟨by have := congrArg List.length od; simpa using this.symm, fun i x v aa hv => ?_⟩
      have h1 : (bs.map (fun b => some (wT b)) ++ c.args.toList.map s.look)[i]? = some (some x) := by rw [od, ef, aa]; rfl
      rcases hM i bs.length with a8 | kl
      · rw [fK (by simpa using a8), ef] at h1
        rw [fK a8] at hv;rw [hv] at h1;simp only [gC, gP] at h1;subst h1;exact QJ (cb.1 wo v (c5 hv))
      · rw [gm (by simpa using kl), ef] at h1
        rw [gm kl, ef] at hv;simp only [mo] at h1;cases ai : c.args.toList[i - bs.length]? with
        | none => rw [ai] at hv; cases hv
        | some y =>
          rw [ai] at h1 hv;simp only [gC, gP] at h1 hv;subst hv;exact ar.look h1
    · have e : bs.toArray ++ c.args.map a.eval ++ #[] = (bs ++ c.args.toList.map a.eval).toArray := by
        rw [Array.append_empty];apply Array.ext';simp
      simp only [execOp, ay, resolve, yn, Deferred.ofValue, km];simp only [Sem.run_bind, Sem.run_pure, Result.andThen_ok, invoke];rw [e];exact Bj ys
  · obtain ⟨vs, km, cA⟩ := oT.U1 (ad := ad) (ar.look ao)
    refine ⟨c.args.toList.map a.eval ++ vs, ?_, ?_⟩
    · refine ⟨by have := congrArg List.length od; have h2 := (cA ad).1; simp at this ⊢; omega, fun i x v aa hv => ?_⟩
      have h1 : (c.args.toList.map s.look ++ cs.map (fun x => some (.w (.one x))))[i]? = some (some x) := by rw [od, ef, aa]; rfl
      rcases hM i c.args.toList.length with a8 | kl
      · rw [fK (by simpa using a8), ef] at h1
        rw [fK (by simpa using a8), ef] at hv;cases ai : c.args.toList[i]? with
        | none => rw [ai] at hv; cases hv
        | some y =>
          rw [ai] at h1 hv;simp only [gC, gP] at h1 hv;subst hv;exact ar.look h1
      · rw [gm (by simpa using kl), ef] at h1
        rw [gm (by simpa using kl)] at hv;simp only [mo] at h1 hv;cases ai : cs[i - c.args.toList.length]? with
        | none => rw [ai] at h1; cases h1
        | some y =>
          rw [ai] at h1;simp only [gC, gP] at h1;subst h1;exact (cA ad).2 _ y v ai hv
    · have e : (#[] : Array Value) ++ c.args.map a.eval ++ vs.toArray = (c.args.toList.map a.eval ++ vs).toArray := by
        apply Array.ext';simp
      simp only [execOp, ay, resolve, yn, Deferred.ofValue, km];simp only [Sem.run_bind, Sem.run_pure, Result.andThen_ok, invoke];rw [e];exact Bj ys
theorem eo.part (ar : eo bo bG R s a w A ad) {m0 : Mem} {R0 : aG} (hm : ∀ k cs, m0 k = some cs → s.mem k = some cs) (al : bt R0 R) (fs : ∀ k cs x j, m0 k = some cs → x ∈ cs → x.owns j → ∃ aq, m0 j = some aq) : eS (s.free A ad) ad w m0 R0 := by
  refine ⟨fun k cs af => ?_, fs, fun k k' cs aq af eD e => ar.rel.inj k k' cs aq (hm k cs af) (hm k' aq eD) e, fun i r hi => ?_, fun i j r q hi ae => ar.apart i j r q (al i r hi) (al j q ae)⟩
  · obtain ⟨vs, ty, h1, h2, _⟩ := ar.rel.dt k cs (hm k cs af)
    exact ⟨vs, ty, h1, h2, fun h => h.2 k cs (hm k cs af) rfl⟩
  · obtain ⟨h1, h2, h3⟩ := ar.rows i r (al i r hi)
    exact ⟨h1, h2, fun g ao => ⟨fun h => (h3 g ao).1 h.1, fun k cs af => (h3 g ao).2 k cs (hm k cs af)⟩⟩
theorem eo.Yb (ar : eo bo bG R s a w A ad) {m0 : Mem} {R0 : aG} (hm : ∀ k cs, m0 k = some cs → s.mem k = some cs) (al : bt R0 R) {b : Nat} (h : ea ad m0 R0 b) : b < w.heap.size := by
  rcases h with ⟨k, cs, af, rfl⟩ | ⟨i, r, hi, ao⟩
  · exact ar.rel.lt (hm k cs af)
  · exact (ar.rows i r (al i r hi)).ok.lt ao
def az.over (s : az) (aD : Mem) : az := { s with mem := bJ aD s.mem }
theorem eo.called (ar : eo bo bG R s a w A ad) (ok : s.cJ) {m0 aD : Mem} {R0 aw : aG} {aY : Nat → Nat} {cq : Nat → Prop} {w' : World} (hm : ∀ k cs, m0 k = some cs → s.mem k = some cs) (al : bt R0 R)
    (cH : eS cq aY w' aD aw) (bd : ∀ k cs, m0 k = some cs → aY k = ad k ∧ ∃ aq, aD k = some aq) (bC : ∀ i r, R0 i = some r → ∃ aT, aw i = some aT) (f1 : ∀ k aq, aD k = some aq → (∃ cs, m0 k = some cs) ∨ s.mem k = none) (fn : ∀ k aq, aD k = some aq → s.mem k = none → k < s.n)
    (cr : ∀ b, cq b → s.free A ad b ∨ w.heap.size ≤ b ∨ ea ad m0 R0 b) (cm : ∀ b, ea aY aD aw b → ea ad m0 R0 b ∨ w.heap.size ≤ b) (ab : jO (Gt ad w m0 R0) w') :
    eo bo bG (bJ aw R) (s.over aD) a w' (fun b => (s.free A ad b ∧ b < w.heap.size) ∨ cq b ∨ w'.heap.size ≤ b) (fun k => match aD k with | some _ => aY k | none => ad k) ∧
      (∀ b, cq b → (s.over aD).free (fun b => (s.free A ad b ∧ b < w.heap.size) ∨ cq b ∨ w'.heap.size ≤ b) (fun k => match aD k with | some _ => aY k | none => ad k) b) ∧ (s.over aD).cJ := by
  have a8 : ∀ b, ea ad m0 R0 b → b < w.heap.size := fun b h => ar.Yb hm al h
  have je : ∀ k, (∃ cs, s.mem k = some cs) → (match aD k with | some _ => aY k | none => ad k) = ad k := by
    rintro k ⟨cs, af⟩;cases fB : aD k with
    | none => rfl
    | some aq =>
      rcases f1 k aq fB with ⟨uj, aA⟩ | aA
      · exact (bd k uj aA).1
      · rw [aA] at af; cases af
  have YQ : ∀ k aq, aD k = some aq → (match aD k with | some _ => aY k | none => ad k) = aY k := fun k aq h => by rw [h]
  have rD : ∀ b, s.free A ad b → ¬ ea ad m0 R0 b := by
    rintro b ap (⟨k, cs, af, rfl⟩ | ⟨i, r, hi, ao⟩)
    · exact ap.2 k cs (hm k cs af) rfl
    · exact ((ar.rows i r (al i r hi)).own b ao).1 ap.1
  have uC : ∀ b, b < w.heap.size → ¬ ea ad m0 R0 b → w'.heap[b]? = w.heap[b]? := fun b h1 h2 => ab.block b ⟨h1, h2⟩;have bB : w.heap.size ≤ w'.heap.size := ab.size
  have B0 : ∀ b, ea aY aD aw b → b < w'.heap.size := by
    rintro b (⟨k, cs, af, rfl⟩ | ⟨i, r, hi, ao⟩)
    · obtain ⟨vs, ty, h1, _⟩ := cH.dt k cs af
      exact (jH.1 h1).1
    · exact (cH.rows i r hi).1.lt ao
 
  have zg : ∀ k cs, aD k = none → s.mem k = some cs → ¬ ea ad m0 R0 (ad k) := by
    rintro k cs au af (⟨j, uj, ae, e⟩ | ⟨i, r, hi, ao⟩)
    · have bm : j = k := ar.rel.inj j k _ _ (hm j uj ae) af e
      subst bm;obtain ⟨_, aq, h⟩ := bd j uj ae;rw [au] at h; cases h
    · exact ((ar.rows i r (al i r hi)).own _ ao).2 k cs af rfl
  have zI : ∀ i r, aw i = none → R i = some r → ∀ g, r.own g → ¬ ea ad m0 R0 g := by
    rintro i r au hi g ao (⟨j, uj, ae, e⟩ | ⟨fi, aT, cP, dX⟩)
    · exact ((ar.rows i r hi).own _ ao).2 j uj (hm j uj ae) e
    · by_cases e : i = fi
      · subst e
        obtain ⟨q, h⟩ := bC i aT cP;rw [au] at h; cases h
      · exact ar.apart i fi r aT hi (al fi aT cP) e g ao dX
  have w5 : ∀ i r, R i = some r → ∀ g, r.own g → g < w.heap.size := fun i r hi g ao => (ar.rows i r hi).ok.lt ao
  have FQ : ∀ b, cq b → ¬ ea aY aD aw b := by
    rintro b hu (⟨k, cs, af, rfl⟩ | ⟨i, r, hi, ao⟩)
    · obtain ⟨_, _, _, _, h⟩ := cH.dt k cs af; exact h hu
    · exact ((cH.rows i r hi).2.2 b ao).1 hu
  have Fm : ∀ b, s.free A ad b → b < w.heap.size → (s.over aD).free (fun b => (s.free A ad b ∧ b < w.heap.size) ∨ cq b ∨ w'.heap.size ≤ b) (fun k => match aD k with | some _ => aY k | none => ad k) b := by
    intro b ap hl;refine ⟨.inl ⟨ap, hl⟩, fun k cs af => ?_⟩;rcases jE (show bJ aD s.mem k = some cs from af) with h | ⟨h, aJ⟩
    · simp only [h]
      intro e;rcases cm b (.inl ⟨k, cs, h, e⟩) with q | q
      · exact rD b ap q
      · omega
    · simp only [h]; exact ap.2 k cs aJ
  have Fo : ∀ b, cq b → (s.over aD).free (fun b => (s.free A ad b ∧ b < w.heap.size) ∨ cq b ∨ w'.heap.size ≤ b) (fun k => match aD k with | some _ => aY k | none => ad k) b := by
    intro b hu;refine ⟨.inr (.inl hu), fun k cs af => ?_⟩;rcases jE (show bJ aD s.mem k = some cs from af) with h | ⟨h, aJ⟩
    · simp only [h]
      intro e;exact FQ b hu (.inl ⟨k, cs, h, e⟩)
    · simp only [h]
      intro e;subst e;rcases cr _ hu with q | q | q
      · exact q.2 k cs aJ rfl
      · have := ar.rel.lt aJ; omega
      · exact zg k cs h aJ q
  have c3 : (s.over aD).cJ := by
    have y8 : ∀ j, (∃ cs, s.mem j = some cs) → ∃ cs, (s.over aD).mem j = some cs := by
      rintro j ⟨cs, h⟩;show ∃ cs, bJ aD s.mem j = some cs;cases fB : aD j with
      | some c => exact ⟨c, hk fB⟩
      | none => exact ⟨cs, by rw [hn fB]; exact h⟩
    refine ⟨fun t av j ax ae => y8 j (ok.gE t av j ax ae), fun k cs x j af aa ae => ?_⟩;rcases jE (show bJ aD s.mem k = some cs from af) with h | ⟨h, aJ⟩
    · obtain ⟨c, aj⟩ := cH.fs k cs x j h aa ae
      exact ⟨c, hk aj⟩
    · exact y8 j (ok.dt k cs x j aJ aa ae)
  have aar : ∀ k cs, m0 k = some cs → ea aY aD aw (ad k) := fun k cs af => by
    obtain ⟨e, aq, h⟩ := bd k cs af;exact .inl ⟨k, aq, h, e⟩
  have MH : ∀ b, ea ad m0 R0 b → ¬ bo.F b := by
    rintro b (⟨k, cs, af, rfl⟩ | ⟨i, r, hi, ao⟩)
    · exact ar.ov k cs (hm k cs af)
    · exact (ar.hot i r b (al i r hi) ao).1
  have OA : ∀ b, w.heap.size ≤ b → ¬ bo.F b := fun b h ap => by have := bo.lt b ap; have := ar.below.size; omega
  refine ⟨⟨ar.up, ?_, ?_, fun k cs af ap => ?_, ⟨ab.os.trans ar.below.os, ab.tape.trans ar.below.tape, ab.output.trans ar.below.output, h8 ar.below.size ab.size, fun b ap => ?_⟩, fun i r hi => ?_, fun i j r q hi ae fg g ao => ?_, fun i r g hi ao => ?_, fun k b af => ?_⟩, Fo, c3⟩
  · rintro b (h | h | h)
    · exact ar.sub b h.1.1
    · rcases cr b h with q | q | ⟨k, cs, af, rfl⟩ | ⟨i, r, hi, ao⟩
      · exact ar.sub b q.1
      · exact ar.up b (h8 ar.below.size q)
      · exact absurd (aar k cs af) (FQ _ h)
      · exact (ar.hot i r b (al i r hi) ao).2
    · exact ar.up b (by have := ar.below.size; omega)
  · refine ⟨ar.rel.pC, ar.rel.size, fun t av ax => ?_, fun k cs af => ?_, fun k k' cs aq af eD e => ?_, jO.refl _, fun b h => .inr (.inr h), wa _ _ _⟩
    · obtain ⟨v, h1, h2⟩ := ar.rel.gE t av ax
      exact ⟨v, h1, h2.map (fun b ap hl => ⟨Fm b ap hl, uC b hl (rD b ap)⟩) fun j ae => je j (ok.gE t av j ax ae)⟩
    · rcases jE (show bJ aD s.mem k = some cs from af) with h | ⟨h, aJ⟩
      · obtain ⟨vs, ty, h1, h2, _⟩ := cH.dt k cs h
        refine ⟨vs, ty, by simp only [h]; exact h1, h2.map (fun b hu _ => ⟨Fo b hu, rfl⟩) fun j x aa ae => ?_, fun ap => ap.2 k cs af rfl⟩;obtain ⟨c, aj⟩ := cH.fs k cs x j h aa ae;exact YQ j c aj
      · obtain ⟨vs, ty, h1, h2, _⟩ := ar.rel.dt k cs aJ
        refine ⟨vs, ty, by simp only [h]; rw [uC _ (ar.rel.lt aJ) (zg k cs h aJ)]; exact h1, h2.map (fun b ap hl => ⟨Fm b ap hl, uC b hl (rD b ap)⟩) fun j x aa ae => je j (ok.dt k cs x j aJ aa ae), fun ap => ap.2 k cs af rfl⟩
    · rcases jE (show bJ aD s.mem k = some cs from af) with h | ⟨h, aJ⟩
      · rcases jE (show bJ aD s.mem k' = some aq from eD) with g | ⟨g, jb⟩
        · simp only [h, g] at e
          exact cH.inj k k' cs aq h g e
        · simp only [h, g] at e
          rcases cm _ (.inl ⟨k, cs, h, e⟩) with q | q
          · exact absurd q (zg k' aq g jb)
          · have := ar.rel.lt jb; omega
      · rcases jE (show bJ aD s.mem k' = some aq from eD) with g | ⟨g, jb⟩
        · simp only [h, g] at e
          rcases cm _ (.inl ⟨k', aq, g, e.symm⟩) with q | q
          · exact absurd q (zg k cs h aJ)
          · have := ar.rel.lt aJ; omega
        · simp only [h, g] at e
          exact ar.rel.inj k k' cs aq aJ jb e
  · rcases jE (show bJ aD s.mem k = some cs from af) with h | ⟨h, aJ⟩
    · simp only [h] at ap
      rcases cm _ (.inl ⟨k, cs, h, rfl⟩) with q | q
      · exact MH _ q ap
      · exact OA _ q ap
    · simp only [h] at ap
      exact ar.ov k cs aJ ap
  · exact (uC b (r1 (bo.lt b ap) ar.below.size) fun h => MH b h ap).trans (ar.below.block b ap)
  · rcases jE hi with h | ⟨h, aJ⟩
    · obtain ⟨k7, aj, ao⟩ := cH.rows i r h
      refine ⟨k7.kept aj (fun _ _ => rfl) (dl _) (fun b hu _ => ⟨Fo b hu, rfl⟩), aj, fun g q => ?_⟩;have aR : ea aY aD aw g := .inr ⟨i, r, h, q⟩;refine ⟨?_, fun k cs af => ?_⟩
      · rintro (z | z | z)
        · rcases cm g aR with y | y
          · exact rD g z.1 y
          · omega
        · exact FQ g z aR
        · have := B0 g aR; omega
      · rcases jE (show bJ aD s.mem k = some cs from af) with y | ⟨y, y'⟩
        · simp only [y]; exact (ao g q).2 k cs y
        · simp only [y]
          intro e;subst e;rcases cm _ aR with z | z
          · exact zg k cs y y' z
          · have := ar.rel.lt y'; omega
    · obtain ⟨k7, aj, ao⟩ := ar.rows i r aJ
      refine ⟨k7.kept aj (fun g q => uC g (w5 i r aJ g q) (zI i r h aJ g q)) bB (fun b ap c0 => ⟨Fm b ap c0, uC b c0 (rD b ap)⟩), aj, fun g q => ⟨?_, fun k cs af => ?_⟩⟩
      · rintro (z | z | z)
        · exact (ao g q).1 z.1.1
        · rcases cr g z with y | y | y
          · exact (ao g q).1 y.1
          · have := w5 i r aJ g q; omega
          · exact zI i r h aJ g q y
        · have := w5 i r aJ g q; omega
      · rcases jE (show bJ aD s.mem k = some cs from af) with y | ⟨y, y'⟩
        · simp only [y]
          intro e;rcases cm g (.inl ⟨k, cs, y, e⟩) with z | z
          · exact zI i r h aJ g q z
          · have := w5 i r aJ g q; omega
        · simp only [y]; exact (ao g q).2 k cs y'
  · rcases jE hi with h | ⟨h, aJ⟩
    · rcases jE ae with y | ⟨y, y'⟩
      · exact cH.apart i j r q h y fg g ao
      · intro ak
        rcases cm g (.inr ⟨i, r, h, ao⟩) with z | z
        · exact zI j q y y' g ak z
        · have := w5 j q y' g ak; omega
    · rcases jE ae with y | ⟨y, y'⟩
      · intro ak
        rcases cm g (.inr ⟨j, q, y, ak⟩) with z | z
        · exact zI i r h aJ g ao z
        · have := w5 i r aJ g ao; omega
      · exact ar.apart i j r q aJ y' fg g ao
  · rcases jE hi with h | ⟨h, aJ⟩
    · rcases cm g (.inr ⟨i, r, h, ao⟩) with (⟨k, cs, af, e⟩ | ⟨j, q, ae, ak⟩) | z
      · obtain ⟨bm, aq, aA⟩ := bd k cs af
        exact absurd (bm.trans e) (((cH.rows i r h).2.2 g ao).2 k aq aA)
      · exact ar.hot j q g (al j q ae) ak
      · exact ⟨OA g z, ar.up g (by have := ar.below.size; omega)⟩
    · exact ar.hot i r g aJ ao
  · obtain ⟨h1, h2⟩ := ar.jS k b af
    refine ⟨h1, ?_⟩;cases fB : aD k with
    | none => exact h2
    | some c =>
      rcases f1 k c fB with ⟨cs, aA⟩ | aA
      · exact (bd k cs aA).1.trans h2
      · exact absurd (fn k c fB aA) (Nat.not_lt.2 h1)
structure tT (P : Program) (T : Nat → Bool) (R : aG) (s : az) (o : Oper) (K : aG → az → Prop) : Prop where
  ex : ∃ f args m0 R0 Post, sg P s.look o f args ∧ cY P f args m0 R0 Post ∧ (∀ x ∈ args, ∀ j, x.owns j → ∃ cs, m0 j = some cs) ∧ (∀ k cs, m0 k = some cs → s.mem k = some cs ∧ (T k = true ∨ ∀ r aD aw, Post r aD aw → aD k = some cs)) ∧ bt R0 R ∧ (∀ k cs x j, m0 k = some cs → x ∈ cs → x.owns j → ∃ aq, m0 j = some aq) ∧
    ∀ r aD aw, Post r aD aw → (∀ j, r.owns j → ∃ cs, aD j = some cs) → (∀ k cs x j, aD k = some cs → x ∈ cs → x.owns j → ∃ aq, aD j = some aq) → (∀ k cs, m0 k = some cs → ∃ aq, aD k = some aq) →
      (∀ k aq, aD k = some aq → (∃ cs, m0 k = some cs) ∨ (s.mem k = none ∧ k < s.n)) ∧ K (bJ aw R) ((s.over aD).put o.dst r)
theorem az.cJ.abD {aD : Mem} (ok : s.cJ) (fs : ∀ k cs x j, aD k = some cs → x ∈ cs → x.owns j → ∃ aq, aD j = some aq) : (s.over aD).cJ := by
  have y8 : ∀ j, (∃ cs, s.mem j = some cs) → ∃ cs, (s.over aD).mem j = some cs := by
    rintro j ⟨cs, h⟩;show ∃ cs, bJ aD s.mem j = some cs;cases fB : aD j with
    | some c => exact ⟨c, hk fB⟩
    | none => exact ⟨cs, by rw [hn fB]; exact h⟩
  refine ⟨fun t av j ax ae => y8 j (ok.gE t av j ax ae), fun k cs x j af aa ae => ?_⟩;rcases jE (show bJ aD s.mem k = some cs from af) with h | ⟨h, aJ⟩
  · obtain ⟨c, aj⟩ := fs k cs x j h aa ae
    exact ⟨c, hk aj⟩
  · exact y8 j (ok.dt k cs x j aJ aa ae)
theorem az.cJ.HF {aD : Mem} {r : ah} (ok : s.cJ) (fs : ∀ k cs x j, aD k = some cs → x ∈ cs → x.owns j → ∃ aq, aD j = some aq) (iO : ∀ j, r.owns j → ∃ cs, aD j = some cs) (dst : Option Nat) : ((s.over aD).put dst r).cJ :=
  (ok.abD fs).put fun j ae => by
    obtain ⟨c, aj⟩ := iO j ae;exact ⟨c, hk aj⟩
theorem tT.mono {K kX : aG → az → Prop} (ok : s.cJ) {T : Nat → Bool} (h : tT P T R s o K) (e6 : ∀ R s, s.cJ → K R s → kX R s) : tT P T R s o kX := by
  obtain ⟨f, args, m0, R0, Post, aj, hp, ay, hm, al, fs, af⟩ := h.ex;refine ⟨f, args, m0, R0, Post, aj, hp, ay, hm, al, fs, fun r aD aw h1 h2 h3 aE => ?_⟩;obtain ⟨f1, k⟩ := af r aD aw h1 h2 h3 aE;exact ⟨f1, e6 _ _ (ok.HF h3 h2 _) k⟩
theorem tT.sound {K : aG → az → Prop} {T : Nat → Bool} (h : tT P T R s o K) (hd : ∀ d, o.dst = some d → d < s.n) (ar : eo bo bG R s a w A ad) (ok : s.cJ) {kX : Act → World → Prop} (e6 : ∀ aw s' a' w', s'.cJ → oY bo bG aw s' a' w' → K aw s' → kX a' w') : o.wp P a w kX Q := by
  obtain ⟨f, args, m0, R0, Post, aj, hp, ay, fB, al, fs, af⟩ := h.ex;have hm : ∀ k cs, m0 k = some cs → s.mem k = some cs := fun k cs h => (fB k cs h).1;obtain ⟨us, cI, gh⟩ := aj.run ar.rel;unfold Oper.wp;rw [gh];refine (hp.call (s.free A ad) ad w us (ar.part hm al fs) ay cI).mono ?_;rintro e w' ⟨v, r, aD, aw, aY, cq, rfl, jx, cH, hv, iO, bd, bC, cr, cm, ab⟩;obtain ⟨f1, eD⟩ := af r aD aw jx iO cH.fs fun k cs h => (bd k cs h).2
  obtain ⟨cg, c8, du⟩ := ar.called ok hm al cH bd bC (fun k c h => (f1 k c h).imp id And.left) (fun k c h aA => by
    rcases f1 k c h with ⟨cs, q⟩ | q
    · rw [hm k cs q] at aA; cases aA
    · exact q.2) cr cm ab
  have bP : cR ((s.over aD).free (fun b => (s.free A ad b ∧ b < w.heap.size) ∨ cq b ∨ w'.heap.size ≤ b) (fun k => match aD k with | some _ => aY k | none => ad k)) (fun k => match aD k with | some _ => aY k | none => ad k) w' r v :=
    hv.map (fun b hu _ => ⟨c8 b hu, rfl⟩) fun j ae => by
      obtain ⟨c, aj⟩ := iO j ae;simp only [aj]
  refine e6 _ _ _ _ (du.put fun j ae => ?_) ⟨_, _, cg.put (fun d' e => hd d' e) bP⟩ eD;obtain ⟨c, aj⟩ := iO j ae;exact ⟨c, hk aj⟩
end
def vC (o : Oper) : Bool := match o.op with
  | .call ⟨.builtin .append, _, _⟩ => true
  | .call ⟨.builtin .copy, _, _⟩ => true
  | _ => false
def uH (o : Oper) : Bool := match o.op with
  | .call ⟨.builtin .append, _, _⟩ => true
  | .call ⟨.builtin .copy, _, _⟩ => true
  | .buildSlice .. => true
  | .makeSlice .. => true
  | _ => false
def UY (o : Oper) : Bool := match o.op with
  | .call ⟨.value _, _, _⟩ => true
  | _ => false
def afv (o : Oper) : Bool := match o.op with
  | .store .. => true
  | _ => false
def dL (dr : Option (List Nat)) (o : Oper) : Bool := (UY o && match dr with
  | none => true
  | some hs => hs.contains (o.dst.getD 1000000)) || (afv o && match dr with
  | none => false
  | some hs => hs.contains 4000000)
def Rc (dr : Option (List Nat)) (o : Oper) : Bool := match dr with
  | none => true
  | some _ => dL dr o
def pa (dr : Option (List Nat)) (o : Oper) : Bool := match dr with
  | none => false
  | some hs => hs.contains (3000000 + o.dst.getD 0)
def oN (dr : Option (List Nat)) (k : Nat) : Bool := match dr with
  | none => true
  | some hs => hs.contains (2000000 + k)
def qz (dr : Option (List Nat)) (look : Operand → Option ah) (o : Oper) : Bool := match dr with
  | none => true
  | some hs => bif hs.isEmpty then true else match o.op with
    | .load _ x => match look x with
      | some (.w (.one (.own k _))) => !hs.contains (2000000 + k)
      | _ => true
    | _ => true
def kN (o : Oper) : Bool := match o.op with
  | .store .. => true
  | .alloc _ => true
  | .box .. => true
  | _ => false
def zB (ops : Array Oper) (hs : List Nat) (dst : Option Nat) : Bool := (List.range ops.size).all fun k => match ops[k]? with
  | some ok => !(ok.dst == dst) || (List.range ops.size).all fun j => match ops[j]? with
    | some bq => !(vC bq || dL (some hs) bq) || waits .any ops 8 j k
    | none => true
  | none => true
def tD (ops : Array Oper) (dr : Option (List Nat)) (dst : Option Nat) : Bool := match dr with
  | none => true
  | some hs => zB ops hs dst
inductive q4 (P : Program) (ops : Array Oper) (dr : Option (List Nat)) (R : aG) (s : az) (o : Oper) : Bool → b4 → Prop
  | kB (b : Bool) (e : b4) (h : eN P s.n s.look s.mem o b e) (ax : qz dr s.look o = true) : q4 P ops dr R s o b e
  | read (av : ah) (h : kw P R s.look o av) (aj : av.closed) (al : tD ops dr o.dst = true) : q4 P ops dr R s o true ⟨av, none⟩
def uv (P : Program) (ops : Array Oper) (dr : Option (List Nat)) (o : Oper) (K : aG → az → Prop) (R : aG) (s : az) : Prop :=
  ∃ b, want ops o s = some b ∧ (∀ d, o.dst = some d → d < s.n) ∧ ((∃ e, q4 P ops dr R s o b e ∧ K R (e.on o.dst s)) ∨ (b = true ∧ ∃ d f, ∃ iu : Value → Prop, o.dst = some d ∧ (kx P R s.look o f iu ∧ pa dr o = false) ∧ ∀ v' : Value, iu v' → K (f v') (s.put (some d) (aM v'))) ∨ (b = true ∧ Rc dr o = true ∧ ∃ aw, o.dst = none ∧ sk P R s.look o aw ∧ K aw s) ∨
    (b = true ∧ dr = none ∧ ∃ d f i, ∃ g : Value → bz, o.dst = some d ∧ kx P R s.look o f AD ∧ (∀ v', f v' i = some (g v') ∧ (g v').v = v' ∧ 0 < (g v').sz) ∧ ∀ v' : Value, v'.oneCell' = true → K (fun j => if j = i then none else f v' j) (s.put (some d) (cz (g v').sz (g v').n (g v').aO))) ∨
    (b = true ∧ dL dr o = true ∧ tT P (oN dr) R s o K) ∨
    (b = true ∧ dL dr o = true ∧ tT P (oN dr) R s o fun aw s' => ∃ i d r, o.dst = some d ∧ aw i = some r ∧ 0 < r.sz ∧ s'.tmps d = some (aM r.v) ∧ d < s'.n ∧ K (fun j => if j = i then none else aw j) (s'.put (some d) (cz r.sz r.n r.aO))))
def ct (P : Program) (ops : Array Oper) (dr : Option (List Nat)) (K : aG → az → Prop) : List Oper → aG → az → Prop
  | [], R, s => K R s
  | o :: rest, R, s => uv P ops dr o (ct P ops dr K rest) R s
def vY (P : Program) (md : Region.Mode) (ops : Array Oper) (hs : List Nat) (K : aG → az → Prop) : Nat → Array Bool → aG → az → Prop
  | 0, bn, R, s => Region.ready md ops bn = [] ∧ K R s
  | eZ + 1, bn, R, s => (Region.ready md ops bn = [] → K R s) ∧
    ∀ i ∈ Region.ready md ops bn, ∀ o, ops[i]? = some o → uv P ops (some hs) o (vY P md ops hs K eZ (bn.setIfInBounds i true)) R s
section
variable {P : Program} {bo : eP} {bG A : Nat → Prop} {R : aG} {s s' : az} {a a' : Act} {w w' : World} {ad aY : Nat → Nat} {o bl bq : Oper} {ops : Array Oper} {md : Region.Mode} {dr : Option (List Nat)} {hs : List Nat}
theorem q4.ok {b : Bool} {e : b4} (ok : s.cJ) (h : q4 P ops dr R s o b e) (hd : ∀ d, o.dst = some d → d < s.n) : (e.on o.dst s).cJ := by
  cases h with
  | kB b e h ax => exact x3 ok h hd
  | read av h aj al => exact ok.put fun j ae => absurd ae (aj j)
theorem HY (ok : s.cJ) (d : Nat) (v : Value) : (s.put (some d) (aM v)).cJ := ok.put fun j ae => absurd ae (iR v j)
theorem L8 {K kX : aG → az → Prop} (ok : s.cJ) (h : ∀ R s, s.cJ → K R s → kX R s) (aR : uv P ops dr o K R s) : uv P ops dr o kX R s := by
  obtain ⟨b, hw, hd, h1 | ⟨ab, d, f, iu, dp, ap, af⟩ | ⟨ab, oe, aw, dp, ap, af⟩ | ⟨ab, oe, d, f, i, g, dp, ap, ao, af⟩ | ⟨ab, hm, aj⟩ | ⟨ab, hm, aj⟩⟩ := aR
  · obtain ⟨e, he, af⟩ := h1
    exact ⟨b, hw, hd, .inl ⟨e, he, h _ _ (he.ok ok hd) af⟩⟩
  · exact ⟨b, hw, hd, .inr (.inl ⟨ab, d, f, iu, dp, ap, fun v' hv => h _ _ (HY ok d v') (af v' hv)⟩)⟩
  · exact ⟨b, hw, hd, .inr (.inr (.inl ⟨ab, oe, aw, dp, ap, h _ _ ok af⟩))⟩
  · exact ⟨b, hw, hd, .inr (.inr (.inr (.inl ⟨ab, oe, d, f, i, g, dp, ap, ao, fun v' hv => h _ _ (ok.put fun j ae => absurd ae (lf _ j)) (af v' hv)⟩)))⟩
  · exact ⟨b, hw, hd, .inr (.inr (.inr (.inr (.inl ⟨ab, hm, aj.mono ok h⟩))))⟩
  · refine ⟨b, hw, hd, .inr (.inr (.inr (.inr (.inr ⟨ab, hm, aj.mono ok fun R s abx af => ?_⟩))))⟩
    obtain ⟨i, d, r, aA, h1, aI, h2, h3, aE⟩ := af;exact ⟨i, d, r, aA, h1, aI, h2, h3, h _ _ (abx.put fun j ae => absurd ae (lf _ j)) aE⟩
theorem eo.ui (ar : eo bo bG R s a w A ad) (i d : Nat) (r : bz) (hi : R i = some r) (bB : 0 < r.sz) (Xt : s.tmps d = some (aM r.v)) (fG : d < s.n) : ∃ dH, eo bo bG (fun j => if j = i then none else R j) (s.put (some d) (cz r.sz r.n r.aO)) a w dH ad := by
  obtain ⟨oi, cA, ao⟩ := ar.rows i r hi;obtain ⟨xs, ay, hl⟩ := oi.row bB;have uu : ∀ b, s.free A ad b → b < w.heap.size → s.free (fun b => A b ∨ r.v.ownBlock = some b) ad b ∧ w.heap[b]? = w.heap[b]? := fun b ab _ => ⟨⟨.inl ab.1, ab.2⟩, rfl⟩;have FO : Rel (mI bo s ad w) (fun b => A b ∨ r.v.ownBlock = some b) s ad a w := ar.rel.xR (fun b ab _ => ⟨.inl ab, rfl⟩) (fun k cs af => ⟨rfl, fun ap => ap.2 k cs af rfl⟩) (jO.refl _) (fun b ab => .inl (ar.rel.up b ab)) (wa _ _ _)
  have v7 : eo bo bG (fun j => if j = i then none else R j) s a w (fun b => A b ∨ r.v.ownBlock = some b) ad := by
    refine ⟨ar.up, ?_, FO, ar.ov, ar.below, fun j q ae => ?_, fun j k q cd ae af kn => ?_, fun j q g ae => ?_, ar.jS⟩
    · rintro b (ab | ab)
      · exact ar.sub b ab
      · exact (ar.hot i r b hi (.inl ab)).2
    · have fH : j ≠ i := fun e => by rw [if_pos e] at ae; cases ae
      rw [if_neg fH] at ae;obtain ⟨k7, z6, z7⟩ := ar.rows j q ae;refine ⟨k7.kept z6 (fun _ _ => rfl) (dl _) uu, z6, fun g dX => ⟨?_, (z7 g dX).2⟩⟩;rintro (ab | ab)
      · exact (z7 g dX).1 ab
      · exact ar.apart i j r q hi ae (Ne.symm fH) g (.inl ab) dX
    · have fH : j ≠ i := fun e => by rw [if_pos e] at ae; cases ae
      have ko : k ≠ i := fun e => by rw [if_pos e] at af; cases af
      rw [if_neg fH] at ae;rw [if_neg ko] at af;exact ar.apart j k q cd ae af kn
    · have fH : j ≠ i := fun e => by rw [if_pos e] at ae; cases ae
      rw [if_neg fH] at ae;exact ar.hot j q g ae
  have FP : Rel (mI bo s ad w) (fun b => A b ∨ r.v.ownBlock = some b) (s.put (some d) (cz r.sz r.n r.aO)) ad a w := by
    refine v7.rel.Qy Xt fun v hZ lD => ?_;obtain ⟨rfl, FA⟩ := lD;have nB := hl.1;obtain ⟨kI, au | ⟨g, cap, cur, km, ql, uA, eI, ju, ej, nF⟩⟩ := id ay
    · obtain ⟨aF, aN⟩ := au
      have : r.aO = [] := j3 (by rw [nB, kI, aN]; simp);rw [aF];exact ⟨⟨none, 0, by rw [aN], by omega, by rw [this, aN]; simp, fun h => absurd h (by omega)⟩, fun b ⟨c', a', q, au, ab⟩ => by cases q⟩
    · have sV := ay.cells (g := g) (by rw [km]; rfl)
      rw [km];have qi : kv w ⟨g, 0, none⟩ r.aO xs := ⟨(jH.1 uA).1, hl.vK cA fun b _ _ => ⟨trivial, rfl⟩, sV, cA⟩;refine ⟨⟨some ⟨g, 0, none⟩, cap, rfl, eI, by rw [nB]; exact kI, fun au => ⟨⟨g, 0, none⟩, xs, rfl, qi⟩⟩, ?_⟩;rintro b ⟨c', a', q, au, ap⟩;cases q;rcases ap with rfl | ⟨j, y, v, ai, hv, fW⟩
      · exact ⟨.inr rfl, (ao g (.inl (by rw [km]; rfl))).2⟩
      · have a8 : j < xs.length := by rw [← nB]; exact (bF.1 ai).1
        have h2 := sV j _ (bQ a8);rw [hv] at h2;cases h2;have h3 := hl.2 j y _ ai (bQ a8);cases y with
        | c u => cases fW
        | own k o => cases fW
        | p S => have := h3.2 b fW; exact ⟨.inl this.1, this.2⟩
  exact ⟨_, v7.next (s' := s.put (some d) (cz r.sz r.n r.aO)) (a' := a) (w' := w) (aY := ad) FP⟩
theorem zy (s : az) (d : Nat) (u v : ah) : (s.put (some d) u).put (some d) v = s.put (some d) v := by
  simp only [az.put, az.mk.injEq, true_and, and_true];funext j
  by_cases e : j = d
  · subst e; rw [cf, cf]
  · rw [b3 _ _ e, b3 _ _ e, b3 _ _ e]
theorem L9 {ro : Option Nat} {K : aG → az → Prop} {kX : Act → World → Prop} {Q : Exit → Act → World → Prop} {i : Nat} (hi : ops[i]? = some o) (ok : s.cJ) (ar : oY bo bG R s a w) (h : uv P ops dr o K R s)
    (e6 : ∀ aw s' a' w', s'.cJ → oY bo bG aw s' a' w' → K aw s' → kX a' w') : wpOpIn (l3 ro) 0 P ops Q i kX a w := by
  obtain ⟨A, ad, ar⟩ := ar;obtain ⟨b, hw, hd, h⟩ := h;have om := RJ hw ar.rel;unfold wpOpIn;simp only [hi];cases b with
  | true =>
    rw [om];simp only [if_true];refine Oper.RN ?_ ?nd
    case nd =>
      rcases h with ⟨e, he, _⟩ | ⟨_, d, f, iu, dp, ⟨ap, _⟩, _⟩ | ⟨_, _, aw, dp, ap, _⟩ | ⟨_, _, d, f, i, g, dp, ap, _⟩ | ⟨_, _, aj⟩ | ⟨_, _, aj⟩
      · cases he with
        | kB b e he _ => exact (he.step hd).OE ar.rel
        | read av h aj al =>
          obtain ⟨v, h1, h2⟩ := h.sound ar;exact wR h1 (fun d h => by cases h)
      · obtain ⟨v', w2, dH, h1, _⟩ := ap.sound ar (hd d dp)
        exact wR h1 (fun d h => by cases h)
      · obtain ⟨w2, dH, h1, _⟩ := ap.sound ar
        exact wR h1 (fun d h => by cases h)
      · obtain ⟨v', w2, dH, h1, _⟩ := ap.sound ar (hd d dp)
        exact wR h1 (fun d h => by cases h)
      · obtain ⟨f, args, m0, R0, Post, ⟨⟨c', g, ay, _⟩, _⟩, _⟩ := aj.ex
        intro c ny; rw [ay] at ny; cases ny
      · obtain ⟨f, args, m0, R0, Post, ⟨⟨c', g, ay, _⟩, _⟩, _⟩ := aj.ex
        intro c ny; rw [ay] at ny; cases ny
    rcases h with ⟨e, he, af⟩ | ⟨_, d, f, iu, dp, ⟨ap, _⟩, af⟩ | ⟨_, _, aw, dp, ap, af⟩ | ⟨_, _, d, f, i, g, dp, ap, ao, af⟩ | ⟨_, _, aj⟩ | ⟨_, _, aj⟩
    · have du := he.ok ok hd
      cases he with
      | kB b e he _ => exact Oper.wp_mono (fun a' w' ⟨aY, al⟩ => e6 _ _ a' w' du ⟨A, aY, ar.next al⟩ af) (kU.sound (he.step hd) ar.rel ok)
      | read av h aj al =>
        obtain ⟨v, h1, h2⟩ := h.sound ar;exact Oper.vn h1 (e6 _ _ _ _ du ⟨A, ad, ar.put hd h2⟩ af)
    · obtain ⟨v', w2, dH, h1, h2, h3⟩ := ap.sound ar (hd d dp)
      refine Oper.vn h1 ?_;rw [dp];exact e6 _ _ _ _ (HY ok d v') ⟨dH, ad, h3⟩ (af v' h2)
    · obtain ⟨w2, dH, h1, h2⟩ := ap.sound ar
      unfold Oper.wp;rw [h1, Oper.upon_skip, dp];exact e6 _ _ _ _ ok ⟨dH, ad, h2⟩ af
    · have fG := hd d dp
      obtain ⟨v', w2, dH, h1, h2, h3⟩ := ap.sound ar fG;refine Oper.vn h1 ?_;rw [dp];obtain ⟨lU, aE⟩ := h3.ui i d (g v') (ao v').1 (ao v').2.2 (by rw [(ao v').2.1]; exact cf _ _ _) fG;rw [zy] at aE;exact e6 _ _ _ _ (ok.put fun j ae => absurd ae (lf _ j)) ⟨lU, ad, aE⟩ (af v' h2)
    · exact aj.sound hd ar ok e6
    · refine aj.sound hd ar ok fun aw s' a' w' du cg af => ?_
      obtain ⟨i, d, r, _, h1, aI, h2, h3, aE⟩ := af;obtain ⟨lU, Ai, v7⟩ := cg;obtain ⟨tL, FP⟩ := v7.ui i d r h1 aI h2 h3;exact e6 _ _ _ _ (du.put fun j ae => absurd ae (lf _ j)) ⟨tL, Ai, FP⟩ aE
  | false =>
    rw [om];simp only [mZ, if_false];rcases h with ⟨e, he, af⟩ | ⟨h, _⟩ | ⟨h, _⟩ | ⟨h, _⟩ | ⟨h, _⟩ | ⟨h, _⟩
    · have du := he.ok ok hd
      cases he with
      | kB b e he _ =>
        cases he;exact ⟨fun _ _ => trivial, e6 _ _ _ _ du ⟨A, ad, ar.put hd (cR.undef _)⟩ af⟩
    · cases h
    · cases h
    · cases h
    · cases h
    · cases h
theorem eN.Bb {n : Nat} {look fY : Operand → Option ah} {mem : Nat → Option (List AC)} {b : Bool} {e : b4} (h : eN P n look mem o b e) (el : ∀ x ∈ o.op.operands, fY x = look x) : eN P n fY mem o b e := by
  cases h with
  | skip => exact .skip
  | quiet av ak => exact .quiet av (ak.congr el)
  | fresh av ak => exact .fresh av (ak.congr el)
  | load ty x k off cs av ay aa hm hv => exact .load ty x k off cs av ay (by rw [el x (by simp [ay, Op.operands])]; exact aa) hm hv
  | store ty x y k off cs z i ay aa ai hm hi hs ab => exact .store ty x y k off cs z i ay (by rw [el x (by simp [ay, Op.operands])]; exact aa) (by rw [el y (by simp [ay, Op.operands])]; exact ai) hm hi hs ab
  | new cs d dp hm au => exact .new cs d dp hm (au.congr el)
  | call g args r aj hp => exact .call g args r (aj.congr el) hp
theorem kx.ext {look : Operand → Option ah} {f : Value → aG} {iu : Value → Prop} (h : kx P R look o f iu) (au : vC o = false) (v : Value) : bt R (f v) := by
  cases h with
  | sC i r tt bytes m gS hz news hi ay => simp [vC, ay] at au
  | copy i r tt t2 m lo hi x y news cP bB ay => simp [vC, ay] at au
  | new i t n e sz bytes parts vs zs r hi =>
    intro j q ae;have : j ≠ i := fun e => by subst e; rw [hi] at ae; cases ae
    show bA R i _ j = some q;rw [b3 _ _ this]; exact ae
  | make i t l c e sz bytes x y ou pA vs hi =>
    intro j q ae;have : j ≠ i := fun e => by subst e; rw [hi] at ae; cases ae
    show bA R i _ j = some q;rw [b3 _ _ this]; exact ae
theorem eN.OG {n : Nat} {look : Operand → Option ah} {mem : Nat → Option (List AC)} {b : Bool} {e : b4} (h : eN P n look mem o b e) (hm : kN o = false) : e.m = none := by
  cases h with
  | skip => rfl
  | quiet av ak => rfl
  | fresh av ak => rfl
  | load ty x k off cs av ay aa fB hv => rfl
  | store ty x y k off cs z i ay aa ai fB hi hs ab => simp [kN, ay] at hm
  | new cs d dp fB au =>
    cases au with
    | alloc ty i z cs ay => simp [kN, ay] at hm
    | box ty x z ay => simp [kN, ay] at hm
  | call g args r aj hp => rfl
theorem eN.OH {n : Nat} {look : Operand → Option ah} {mem N2 : Nat → Option (List AC)} {b : Bool} {e : b4} (h : eN P n look mem o b e) (hm : kN o = false) (XX : ∀ ty x k off cs, o.op = .load ty x → look x = some (.w (.one (.own k off))) → mem k = some cs → N2 k = some cs) : eN P n look N2 o b e := by
  cases h with
  | skip => exact .skip
  | quiet av ak => exact .quiet av ak
  | fresh av ak => exact .fresh av ak
  | load ty x k off cs av ay aa fB hv => exact .load ty x k off cs av ay aa (XX ty x k off cs ay aa fB) hv
  | store ty x y k off cs z i ay aa ai fB hi hs ab => simp [kN, ay] at hm
  | new cs d dp fB au =>
    cases au with
    | alloc ty i z cs ay => simp [kN, ay] at hm
    | box ty x z ay => simp [kN, ay] at hm
  | call g args r aj hp => exact .call g args r aj hp
theorem zb {look fY : Operand → Option ah} (h : qz dr look o = true) (e : ∀ x ∈ o.op.operands, fY x = look x) : qz dr fY o = true := by
  unfold qz at h ⊢;cases dr with
  | none => rfl
  | some hs =>
    simp only at h ⊢;cases he : hs.isEmpty with
    | true => rfl
    | false =>
      rw [he] at h;simp only [cond_false] at h ⊢;cases ay : o.op with
      | load ty x =>
        rw [ay] at h;simp only at h ⊢;rw [e x (by simp [ay, Op.operands])]; exact h
      | _ => rfl
theorem NI {hs : List Nat} {look : Operand → Option ah} {ty : TypeId} {x : Operand} {k off : Nat} (h : qz (some hs) look o = true) (ay : o.op = .load ty x) (aa : look x = some (.w (.one (.own k off)))) : oN (some hs) k = false := by
  unfold qz at h;simp only at h;cases he : hs.isEmpty with
  | true =>
    have : hs = [] := List.isEmpty_iff.1 he;subst this; rfl
  | false =>
    rw [he] at h;simp only [cond_false, ay, aa, tx] at h;exact h
theorem sk.congr {look fY : Operand → Option ah} {aw : aG} (h : sk P R look o aw) (e : ∀ x ∈ o.op.operands, fY x = look x) : sk P R fY o aw := by
  cases h with
  | store i r off ty x y z ev hi au ay aa ai ax hs ab aj => exact .store i r off ty x y z ev hi au ay (by rw [e x (by simp [ay, Op.operands])]; exact aa) (by rw [e y (by simp [ay, Op.operands])]; exact ai) ax hs ab aj
theorem WY {b : Bool} {e : b4} {K : aG → az → Prop} (ok : s.cJ) (hw : want ops bl s = some b) (he : q4 P ops (some hs) R s bl b e) (sW : ∀ d, bl.dst = some d → d < s.n) (rs : bl.apart ops bq = true) (l9 : xz s bl bq) (wB : zB ops hs bl.dst = true → vC bq = false ∧ dL (some hs) bq = false) (yz : kN bl = true → dL (some hs) bq = false) (h : uv P ops (some hs) bq K R (e.on bl.dst s)) :
    uv P ops (some hs) bq (fun aw t => (∃ (f : b4) (dt : Mem), t = f.on bq.dst { s with mem := dt }) ∧ (want ops bl t = some b ∧ q4 P ops (some hs) aw t bl b e ∧ (∀ d, bl.dst = some d → d < t.n) ∧ t.cJ) ∧ K aw (e.on bl.dst t)) R s := by
  obtain ⟨a1, a2, a3⟩ := Oper.apart_spec rs;obtain ⟨c, rJ, qm, aR⟩ := h;rw [xj (b := none) a1] at rJ;have uz : ∀ d, bq.dst = some d → d < s.n := fun d hd => by have := qm d hd; rwa [b4.tm] at this
  have kM : ∀ x ∈ bq.op.operands, (e.on bl.dst s).look x = s.look x := fun x aa => b4.qG _ _ _ fun d hd => tb (a1 d hd) aa;have jA : ∀ (f : b4), ∀ x ∈ bl.op.operands, (f.on bq.dst s).look x = s.look x := fun f x aa => b4.qG _ _ _ fun d hd => tb (a3 d hd) aa;have wi : ∀ f : b4, want ops bl (f.on bq.dst s) = some b := fun f => by rw [xj (b := none) a3]; exact hw
  have lH : ∀ f : b4, ∀ d, bl.dst = some d → d < (f.on bq.dst s).n := fun f d hd => by rw [b4.tm]; exact sW d hd
  have KL : ∀ f : b4, f.m = none → f.on bq.dst (e.on bl.dst s) = e.on bl.dst (f.on bq.dst s) := fun f ap => b4.zo e f bl.dst bq.dst s a2 fun k cs j ds _ h2 => by rw [ap] at h2; cases h2
 
  have Q7 : ∀ (aw : aG) (f : b4), f.m = none → (zB ops hs bl.dst = true → bt R aw) → q4 P ops (some hs) aw (f.on bq.dst s) bl b e := fun aw f ap hl => by
    cases he with
    | kB b e he ax =>
      refine .kB _ _ ?_ (zb ax (jA f));rw [b4.tm, b4.qH, ap];exact he.Bb (jA f)
    | read av h aj al => exact .read av ((h.rows (hl al)).congr (jA f)) aj al
  refine ⟨c, rJ, uz, ?_⟩;rcases aR with ⟨f, ap, af⟩ | ⟨ab, d, f, iu, dp, ap, af⟩ | ⟨ab, oe, Xs⟩ | ⟨_, oe, _⟩ | ⟨ab, hm, aj⟩ | ⟨ab, hm, aj⟩
  · left
    cases ap with
    | kB c f ap Yy =>
      have MX := zb Yy fun x aa => (kM x aa).symm;cases id he with
      | kB b e Xz eT =>
        obtain ⟨h1, h2, h3⟩ := eN.swap ok Xz ap rs l9;exact ⟨f, .kB _ _ h1 MX, ⟨f, s.mem, rfl⟩, ⟨wi f, .kB _ _ h2 (zb eT (jA f)), lH f, x3 ok h1 uz⟩, by rw [← h3]; exact af⟩
      | read av h aj al =>
        have h1 : eN P s.n s.look s.mem bq c f := by
          have : eN P s.n ((⟨av, none⟩ : b4).on bl.dst s).look s.mem bq c f := by
            have := ap;rw [b4.tm, b4.qH] at this;exact this
          exact this.Bb fun x aa => (kM x aa).symm
        refine ⟨f, .kB _ _ h1 MX, ⟨f, s.mem, rfl⟩, ⟨wi f, .read av (h.congr (jA f)) aj al, lH f, x3 ok h1 uz⟩, ?_⟩;have : f.on bq.dst ((⟨av, none⟩ : b4).on bl.dst s) = (⟨av, none⟩ : b4).on bl.dst (f.on bq.dst s) := b4.zo _ f bl.dst bq.dst s a2 fun k cs j ds h1 _ => by cases h1
        rw [← this]; exact af
    | read av al aj Yl =>
      have h1 : kw P R s.look bq av := al.congr fun x aa => (kM x aa).symm;refine ⟨⟨av, none⟩, .read av h1 aj Yl, ⟨⟨av, none⟩, s.mem, rfl⟩, ⟨wi _, Q7 R _ rfl (fun _ => .refl R), lH _, ok.put fun j ae => absurd ae (aj j)⟩, ?_⟩;rw [← KL _ rfl]; exact af
  · right; left
    have h1 : kx P R s.look bq f iu := ap.1.congr fun x aa => (kM x aa).symm;refine ⟨ab, d, f, iu, dp, ⟨h1, ap.2⟩, fun v' hv => ?_⟩;have aF : s.put (some d) (aM v') = (⟨aM v', none⟩ : b4).on bq.dst s := by rw [dp]; rfl
    have aN : (e.on bl.dst s).put (some d) (aM v') = (⟨aM v', none⟩ : b4).on bq.dst (e.on bl.dst s) := by rw [dp]; rfl
    have h2 := af v' hv;have O0 := HY ok d v';rw [aN, KL _ rfl] at h2;rw [aF] at O0 ⊢;exact ⟨⟨_, s.mem, rfl⟩, ⟨wi _, Q7 (f v') _ rfl (fun aR => h1.ext (wB aR).1 v'), lH _, O0⟩, h2⟩
  · obtain ⟨aw, dp, ap, af⟩ := Xs
    have hm : dL (some hs) bq = true := oe
    have wy : kN bl = false := by
      cases aa : kN bl with
      | false => rfl
      | true => rw [yz aa] at hm; cases hm
    have k5 : eN P s.n s.look s.mem bl b e ∧ qz (some hs) s.look bl = true := by
      cases he with
      | kB b e he ax => exact ⟨he, ax⟩
      | read av h aj al => rw [(wB al).2] at hm; cases hm
    have h1 : sk P R s.look bq aw := ap.congr fun x aa => (kM x aa).symm;exact .inr (.inr (.inl ⟨ab, oe, aw, dp, h1, ⟨⟨af0, none⟩, s.mem, by rw [dp]; rfl⟩, ⟨hw, .kB _ _ k5.1 k5.2, sW, ok⟩, af⟩))
  · cases oe
  · right; right; right; right; left
    refine ⟨ab, hm, ?_⟩
    have wy : kN bl = false := by
      cases aa : kN bl with
      | false => rfl
      | true => rw [yz aa] at hm; cases hm
    have k5 : eN P s.n s.look s.mem bl b e ∧ qz (some hs) s.look bl = true := by
      cases he with
      | kB b e he ax => exact ⟨he, ax⟩
      | read av h aj al => rw [(wB al).2] at hm; cases hm
    have po : e.m = none := k5.1.OG wy;obtain ⟨f, args, m0, R0, Post, F0, hp, ay, sZ, al, fs, af⟩ := aj.ex;refine ⟨f, args, m0, R0, Post, F0.congr (fun x aa => (kM x aa).symm), hp, ay, fun k cs aA => ?_, al, fs, fun r aD aw h1 h2 h3 aE => ?_⟩
    · obtain ⟨this, ax⟩ := sZ k cs aA
      rw [b4.qH, po] at this;exact ⟨this, ax⟩
    · obtain ⟨f1, e6⟩ := af r aD aw h1 h2 h3 aE
      have x6 : (s.over aD).put bq.dst r = (⟨r, none⟩ : b4).on bq.dst { s with mem := bJ aD s.mem } := rfl
      have es : ((e.on bl.dst s).over aD).put bq.dst r = e.on bl.dst ((s.over aD).put bq.dst r) := by
        have cW : e.on bl.dst s = s.put bl.dst e.v := by unfold b4.on; rw [po]
        have aF : e.on bl.dst ((s.over aD).put bq.dst r) = ((s.over aD).put bq.dst r).put bl.dst e.v := by unfold b4.on; rw [po]
        have aN : (s.put bl.dst e.v).over aD = (s.over aD).put bl.dst e.v := by cases bl.dst <;> rfl
        rw [cW, aF, aN];exact az.put_comm (s.over aD) e.v r a2
      have x8 : ∀ k aq, aD k = some aq → (∃ cs, m0 k = some cs) ∨ (s.mem k = none ∧ k < s.n) := fun k aq aA => by
        have := f1 k aq aA;rw [b4.qH, po, b4.tm] at this;exact this
      have Gi : eN P s.n s.look (bJ aD s.mem) bl b e := k5.1.OH wy fun ty x k off cs ay aa af => by
        have ax := NI k5.2 ay aa;cases uE : aD k with
        | none => rw [hn uE]; exact af
        | some c =>
          rcases x8 k c uE with ⟨gr, aA⟩ | ⟨aA, _⟩
          · obtain ⟨pw, GG | rH⟩ := sZ k gr aA
            · rw [GG] at ax; cases ax
            · rw [hk (rH r aD aw h1)]
              rw [b4.qH, po] at pw;exact pw.symm.trans af
          · rw [aA] at af; cases af
      refine ⟨fun k aq aA => ?_, ⟨⟨_, _, x6⟩, ⟨?_, ?_, fun d hd => ?_, ok.HF h3 h2 _⟩, by rw [← es]; exact e6⟩⟩
      · exact x8 k aq aA
      · rw [x6, xj (b := none) a3]; exact hw
      · refine .kB _ _ ?_ (zb k5.2 fun x aa => by rw [x6]; exact (b4.qG _ _ _ fun d hd => tb (a3 d hd) aa).trans (by cases x <;> rfl))
        have hl : ∀ x ∈ bl.op.operands, ((s.over aD).put bq.dst r).look x = s.look x := fun x aa => by
          rw [x6];exact (b4.qG _ _ _ fun d hd => tb (a3 d hd) aa).trans (by cases x <;> rfl)
        have au : ((s.over aD).put bq.dst r).n = s.n := by rw [az.rV]; rfl
        rw [au, az.wO];exact Gi.Bb hl
      · rw [az.rV]; exact sW d hd
  · right; right; right; right; right
    refine ⟨ab, hm, ?_⟩
    have wy : kN bl = false := by
      cases aa : kN bl with
      | false => rfl
      | true => rw [yz aa] at hm; cases hm
    have k5 : eN P s.n s.look s.mem bl b e ∧ qz (some hs) s.look bl = true := by
      cases he with
      | kB b e he ax => exact ⟨he, ax⟩
      | read av h aj al => rw [(wB al).2] at hm; cases hm
    have po : e.m = none := k5.1.OG wy;obtain ⟨f, args, m0, R0, Post, F0, hp, ay, sZ, al, fs, af⟩ := aj.ex;refine ⟨f, args, m0, R0, Post, F0.congr (fun x aa => (kM x aa).symm), hp, ay, fun k cs aA => ?_, al, fs, fun r aD aw h1 h2 h3 aE => ?_⟩
    · obtain ⟨this, ax⟩ := sZ k cs aA
      rw [b4.qH, po] at this;exact ⟨this, ax⟩
    · obtain ⟨f1, e6⟩ := af r aD aw h1 h2 h3 aE
      have x6 : (s.over aD).put bq.dst r = (⟨r, none⟩ : b4).on bq.dst { s with mem := bJ aD s.mem } := rfl;obtain ⟨i, d, q, dp, s5, yH, yG, MJ, e6⟩ := e6
      have Yi : ((s.over aD).put bq.dst r).tmps d = some (aM q.v) := by
        rw [dp] at yG ⊢;simp only [az.put, cf] at yG ⊢;exact yG
      have Gl : ((s.over aD).put bq.dst r).n = s.n := by rw [az.rV]; rfl
      have Bl : ((s.over aD).put bq.dst r).put (some d) (cz q.sz q.n q.aO) = (⟨cz q.sz q.n q.aO, none⟩ : b4).on bq.dst { s with mem := bJ aD s.mem } := by rw [dp, zy]; rfl
      have Fc : (((e.on bl.dst s).over aD).put bq.dst r).put (some d) (cz q.sz q.n q.aO) = e.on bl.dst (((s.over aD).put bq.dst r).put (some d) (cz q.sz q.n q.aO)) := by
        have cW : e.on bl.dst s = s.put bl.dst e.v := by unfold b4.on; rw [po]
        have aF : ∀ u : az, e.on bl.dst u = u.put bl.dst e.v := fun u => by unfold b4.on; rw [po]
        have aN : (s.put bl.dst e.v).over aD = (s.over aD).put bl.dst e.v := by cases bl.dst <;> rfl
        rw [cW, aF, aN, dp, zy, zy];exact az.put_comm (s.over aD) e.v _ (by rw [← dp]; exact a2)
      rw [Fc] at e6;have Mk : d < s.n := uz d dp
      have x8 : ∀ k aq, aD k = some aq → (∃ cs, m0 k = some cs) ∨ (s.mem k = none ∧ k < s.n) := fun k aq aA => by
        have := f1 k aq aA;rw [b4.qH, po, b4.tm] at this;exact this
      have Gi : eN P s.n s.look (bJ aD s.mem) bl b e := k5.1.OH wy fun ty x k off cs ay aa af => by
        have ax := NI k5.2 ay aa;cases uE : aD k with
        | none => rw [hn uE]; exact af
        | some c =>
          rcases x8 k c uE with ⟨gr, aA⟩ | ⟨aA, _⟩
          · obtain ⟨pw, GG | rH⟩ := sZ k gr aA
            · rw [GG] at ax; cases ax
            · rw [hk (rH r aD aw h1)]
              rw [b4.qH, po] at pw;exact pw.symm.trans af
          · rw [aA] at af; cases af
      refine ⟨fun k aq aA => ?_, i, d, q, dp, s5, yH, Yi, by rw [Gl]; exact Mk, ⟨⟨_, _, Bl⟩, ⟨?_, ?_, fun d hd => ?_, (ok.HF h3 h2 _).put fun j ae => absurd ae (lf _ j)⟩, e6⟩⟩
      · exact x8 k aq aA
      · rw [Bl, xj (b := none) a3]; exact hw
      · refine .kB _ _ ?_ (zb k5.2 fun x aa => by rw [Bl]; exact (b4.qG _ _ _ fun d hd => tb (a3 d hd) aa).trans (by cases x <;> rfl))
        have hl : ∀ x ∈ bl.op.operands, (((s.over aD).put bq.dst r).put (some d) (cz q.sz q.n q.aO)).look x = s.look x := fun x aa => by
          rw [Bl];exact (b4.qG _ _ _ fun d hd => tb (a3 d hd) aa).trans (by cases x <;> rfl)
        have au : (((s.over aD).put bq.dst r).put (some d) (cz q.sz q.n q.aO)).n = s.n := by rw [az.rV, az.rV]; rfl
        rw [au, az.wO, az.wO];exact Gi.Bb hl
      · rw [az.rV, az.rV]; exact sW d hd
theorem WO {K : aG → az → Prop} {i : Nat} {b : Bool} {e : b4} (hi : ops[i]? = some bl) : ∀ (eZ : Nat) (bn : Array Bool) (R : aG) (s : az),
      (∀ j bq, ops[j]? = some bq → j ≠ i → bn.getD j true = false → (∀ e ∈ bq.after, Region.binds .any e = true → e.on ≠ i) → waits .any ops 4 j i = false → waits .any ops 8 j i = false → bl.apart ops bq = true ∧ o3 ops bn bl bq s ∧ (kN bl = true → dL (some hs) bq = false)) →
      Down .any ops bn → i ∈ Region.ready .any ops bn → s.cJ → want ops bl s = some b → q4 P ops (some hs) R s bl b e → (∀ d, bl.dst = some d → d < s.n) →
      vY P .any ops hs K eZ (bn.setIfInBounds i true) R (e.on bl.dst s) → vY P .any ops hs K (eZ + 1) bn R s := by
  intro eZ
  induction eZ with
  | zero =>
    intro bn R s _ fG al ok hw he hd H;refine ⟨fun h => (by rw [h] at al; cases al), fun j ae bq hV => ?_⟩
    by_cases fH : j = i
    · subst fH; rw [hi] at hV; cases hV; exact ⟨b, hw, hd, .inl ⟨e, he, H⟩⟩
    · have := ready_mono ae fH
      rw [H.1] at this;cases this
  | succ eZ bO =>
    intro bn R s jv fG al ok hw he hd H;refine ⟨fun h => (by rw [h] at al; cases al), fun j ae bq hV => ?_⟩
    by_cases fH : j = i
    · subst fH; rw [hi] at hV; cases hV; exact ⟨b, hw, hd, .inl ⟨e, he, H⟩⟩
    · have h1 := H.2 j (ready_mono ae fH) bq hV
      obtain ⟨uB, abv, yD, dn⟩ := mem_ready.1 ae;rw [hV] at yD;cases yD
      have rD : ∀ e ∈ bq.after, Region.binds .any e = true → e.on ≠ i := fun e he ab rz => by
        have h1 := dn e he ab;have aA := (mem_ready.1 al).1;rw [rz] at h1;rcases hM i bn.size with aJ | aJ
        · simp [aJ] at aA h1; rw [aA] at h1; cases h1
        · simp [wY aJ] at h1
      have rK : ∀ f, waits .any ops f j i = false := fun f => by
        cases rJ : waits .any ops f j i with
        | false => rfl
        | true =>
          have h1 := II fG f j i bq hV dn rJ;have aA := (mem_ready.1 al).1;rcases hM i bn.size with aJ | aJ
          · simp [aJ] at aA h1; rw [aA] at h1; cases h1
          · simp [wY aJ] at h1
      have wB : zB ops hs bl.dst = true → vC bq = false ∧ dL (some hs) bq = false := fun h => by
        unfold zB at h;simp only [cb, List.mem_range] at h;have h1 := h i (jH.1 hi).1;simp only [hi, beq_self_eq_true, Bool.not_true, Bool.false_or, cb, List.mem_range] at h1;have h2 := h1 j (jH.1 hV).1;simp only [hV, rK 8, Bool.or_false, tx, Bool.or_eq_false_iff] at h2;exact h2
      obtain ⟨g1, g2, g3⟩ := jv j bq hV fH uB rD (rK 4) (rK 8);have h2 := WY ok hw he hd g1 g2.sep wB g3 h1;refine L8 ok (fun aw t aih h3 => ?_) h2;obtain ⟨⟨f, dt, rfl⟩, h3⟩ := h3
      have F2 : ∀ k ok, ops[k]? = some ok → k ≠ i → (bn.setIfInBounds j true).getD k true = false →
          (∀ e ∈ ok.after, Region.binds .any e = true → e.on ≠ i) → waits .any ops 4 k i = false → waits .any ops 8 k i = false → bl.apart ops ok = true ∧ o3 ops (bn.setIfInBounds j true) bl ok (f.on bq.dst { s with mem := dt }) ∧ (kN bl = true → dL (some hs) ok = false) := fun k ok af ko kK kp GM YH => by
        have s8 : bn.getD k true = false := by
          by_cases kn : j = k
          · subst kn; exact uB
          · rwa [getD_set_ne true kn] at kK
        obtain ⟨q1, q2, bE⟩ := jv k ok af ko s8 kp GM YH;exact ⟨q1, (show o3 ops bn bl ok { s with mem := dt } from q2).on hV uB, bE⟩
      refine bO (bn.setIfInBounds j true) aw _ F2 (fG.set ae) (ready_mono al (Ne.symm fH)) h3.1.2.2.2 h3.1.1 h3.1.2.1 h3.1.2.2.1 ?_;rw [Array.setIfInBounds_comm _ _ fH];exact h3.2
theorem LZ {ro : Option Nat} {K : aG → az → Prop} {Q : Exit → Act → World → Prop} (kF : ∀ aw s' a' w', s'.cJ → oY bo bG aw s' a' w' → K aw s' → Q .normal a' w') : ∀ (eZ : Nat) (bn : Array Bool) (R : aG) (s : az) (a : Act) (w : World), s.cJ → oY bo bG R s a w →
    vY P md ops hs K eZ bn R s → wpAnyIn (l3 ro) 0 P md ops Q eZ bn a w
  | 0, _, _, _, _, _, ok, ar, h => ⟨h.1, kF _ _ _ _ ok ar h.2⟩
  | eZ + 1, bn, R, s, a, w, ok, ar, h => ⟨fun aA => kF _ _ _ _ ok ar (h.1 aA), fun i hi => by
      obtain ⟨aA, o, ay, _⟩ := mem_ready.1 hi;exact L9 ay ok ar (h.2 i hi o ay) fun aw s' a' w' du cg af => LZ kF eZ _ aw s' a' w' du cg af⟩
theorem yg {K : aG → az → Prop} (s0 : ∀ o, dL dr o = false) : ∀ (l : List Oper) (R : aG) (s : az), ct P ops dr K l R s → ∃ aw s', K aw s' ∧ ∀ t, (∀ o ∈ l, o.dst ≠ some t) → s'.tmps t = s.tmps t
  | [], R, s, h => ⟨R, s, h, fun _ _ => rfl⟩
  | o :: l, R, s, ⟨b, hw, hd, h⟩ => by
    rcases h with ⟨e, he, e6⟩ | ⟨_, d, f, iu, dp, ap, e6⟩ | ⟨_, _, bg, dp, ap, e6⟩ | ⟨_, _, d, f, i, g, dp, ap, ao, e6⟩ | ⟨_, hm, _⟩ | ⟨_, hm, _⟩
    · obtain ⟨aw, s', h1, h2⟩ := yg s0 l _ _ e6
      exact ⟨aw, s', h1, fun t ax => (h2 t fun eM gK => ax eM (by simp [gK])).trans (b4.wU (ax o (by simp)))⟩
    · obtain ⟨v1, hZ⟩ := ap.1.out
      obtain ⟨aw, s', h1, h2⟩ := yg s0 l _ _ (e6 v1 hZ);refine ⟨aw, s', h1, fun t ax => (h2 t fun eM gK => ax eM (by simp [gK])).trans ?_⟩;have := ax o (by simp);rw [dp] at this;exact b4.wU (e := ⟨aM v1, none⟩) this
    · obtain ⟨aw, s', h1, h2⟩ := yg s0 l _ _ e6
      exact ⟨aw, s', h1, fun t ax => h2 t fun eM gK => ax eM (by simp [gK])⟩
    · obtain ⟨aw, s', h1, h2⟩ := yg s0 l _ _ (e6 (.bool false) rfl)
      refine ⟨aw, s', h1, fun t ax => (h2 t fun eM gK => ax eM (by simp [gK])).trans ?_⟩;have := ax o (by simp);rw [dp] at this;exact b4.wU (e := ⟨cz (g (.bool false)).sz (g (.bool false)).n (g (.bool false)).aO, none⟩) this
    · rw [s0 o] at hm; cases hm
    · rw [s0 o] at hm; cases hm
def MI (ops : Array Oper) (hs : List Nat) (bn : Array Bool) (i : Nat) : Bool := (List.range ops.size).all fun j => Nat.beq j i || bn.getD j true || match ops[j]? with
  | some bq => !dL (some hs) bq || waits .any ops 8 j i
  | none => true
def zd (ops : Array Oper) (hL : List (Nat × Nat)) (hs : List Nat) : List Nat → Array Bool → Bool
  | [], bn => (Region.ready .any ops bn).isEmpty
  | k :: ord, bn => (bif (match ops[k]? with | some o => (uH o && !pa (some hs) o) || dL (some hs) o | none => true) then Region.ready .any ops bn == [k] else (Region.ready .any ops bn).contains k && Region.free .any ops bn k && Cy .any ops hL bn k && (!(match ops[k]? with | some o => kN o | none => true) || MI ops hs bn k)) && zd ops hL hs ord (bn.setIfInBounds k true)
theorem kx.hot {look : Operand → Option ah} {f : Value → aG} {iu : Value → Prop} (h : kx P R look o f iu) : uH o = true := by
  cases h with
  | sC i r tt bytes m gS hz news hi ay => simp [uH, ay]
  | copy i r tt t2 m lo hi x y news cP bB ay => simp [uH, ay]
  | new i t n e sz bytes parts vs zs r hi ay => simp [uH, ay]
  | make i t l c e sz bytes x y ou pA vs hi ay => simp [uH, ay]
theorem LY {K : aG → az → Prop} {hL : List (Nat × Nat)} (MA : hL = [] ∨ hs = []) : ∀ (ord : List Nat) (l : List Oper) (bn : Array Bool) (R : aG) (s : az), l.length = ord.length → (∀ (j : Nat), l[j]? = (ord[j]?).bind (ops[·]?)) → (∀ k ∈ ord, bn.getD k true = false) → (∀ k, k < ops.size → bn.getD k true = false → k ∈ ord) → ord.Nodup → Down .any ops bn → s.cJ →
    zd ops hL hs ord bn = true → ct P ops (some hs) (fun R s => hL.all (lS s) = true ∧ K R s) l R s → vY P .any ops hs K l.length bn R s
  | [], [], _, _, _, _, _, _, _, _, _, _, eG, h => ⟨by simpa [zd] using eG, h.2⟩
  | [], _ :: _, _, _, _, hlen, _, _, _, _, _, _, _, _ => by cases hlen
  | _ :: _, [], _, _, _, hlen, _, _, _, _, _, _, _, _ => by cases hlen
  | k :: ord, o :: l, bn, R, s, hlen, hl, kK, F1, gJ, fG, ok, eG, h => by
    have aA : ops[k]? = some o := by simpa using (hl 0).symm
    have ry := fun s0 => yg (dr := some hs) s0 _ _ _ h;simp only [zd, aA, dx] at eG;obtain ⟨af, FD⟩ := eG;rw [List.nodup_cons] at gJ;have bX : ∀ q ∈ ord, k ≠ q := fun q ak e => gJ.1 (by rw [e]; exact ak)
    have bO : ∀ aw s', s'.cJ → k ∈ Region.ready .any ops bn → ct P ops (some hs) (fun R s => hL.all (lS s) = true ∧ K R s) l aw s' → vY P .any ops hs K l.length (bn.setIfInBounds k true) aw s' := fun aw s' du al aR => by
      refine LY MA ord l _ aw s' (by simpa using hlen) (fun j => by simpa using hl (j + 1)) (fun q ak => by rw [getD_set_ne true (bX q ak)]; exact kK q (by simp [ak])) (fun q ak uD => ?_) gJ.2 (fG.set al) du FD aR
      by_cases bm : k = q
      · subst bm
        have : k < bn.size := by
          have := kK k (by simp);rcases hM k bn.size with aJ | aJ
          · exact aJ
          · simp [wY aJ] at this
        simp [this] at uD
      · rw [getD_set_ne true bm] at uD
        rcases fQ.1 (F1 q ak uD) with aJ | aJ
        · exact absurd aJ.symm bm
        · exact aJ
    cases aR : ((uH o && !pa (some hs) o) || dL (some hs) o) with
    | true =>
      rw [aR] at af;simp only [cond_true, beq_iff_eq] at af;have al : k ∈ Region.ready .any ops bn := by rw [af]; simp
      refine ⟨fun h1 => (by rw [af] at h1; cases h1), fun i hi bl MD => ?_⟩;rw [af] at hi;obtain rfl : i = k := by simpa using hi
      rw [aA] at MD;cases MD;exact L8 ok (fun aw s' du aR => bO aw s' du al aR) h
    | false =>
      rw [aR] at af;simp only [cond_false, dx] at af;obtain ⟨⟨⟨al, ap⟩, hm⟩, yA⟩ := af;rw [Bool.or_eq_false_iff] at aR;have yI : k ∈ Region.ready .any ops bn := by simpa using al
      obtain ⟨b, hw, hd, h1⟩ := h;rcases h1 with ⟨e, he, e6⟩ | ⟨_, d, f, iu, dp, mJ, _⟩ | ⟨_, oe, _⟩ | ⟨_, oe, _⟩ | ⟨_, fB, _⟩ | ⟨_, fB, _⟩
      · have lC : ∀ p ∈ hL, oy ops bn p.1 = true → oy ops bn p.2 = true → lS s p = true := fun p hp dY et => by
          have pw : hs = [] := by
            rcases MA with aA | aA
            · rw [aA] at hp; cases hp
            · exact aA
          obtain ⟨aw, s', ⟨h1, _⟩, h2⟩ := ry fun o => by rw [pw]; simp [dL]
          have gO : ∀ t, oy ops bn t = true → ∀ eM ∈ o :: l, eM.dst ≠ some t := fun t ax eM gK => by
            obtain ⟨j, ae⟩ := jh gK;rw [hl j] at ae;cases ak : (k :: ord)[j]? with
            | none => rw [ak] at ae; cases ae
            | some q => rw [ak] at ae; exact CM ax q eM ae (kK _ (c5 ak))
          have := cb.1 h1 p hp;unfold lS at this ⊢;rw [h2 p.1 (gO _ dY), h2 p.2 (gO _ et)] at this;exact this
        refine WO aA l.length bn R s (fun j bq h1 h2 h3 aE cZ ff => ⟨Region.free_spec aA ap j bq h1 h2 h3 aE, N5 aA hm lC j bq h1 h2 h3 cZ, fun yz => ?_⟩) fG yI ok hw he hd ?_
        · rw [yz] at yA
          simp only [Bool.not_true, Bool.false_or] at yA;unfold MI at yA;simp only [cb, List.mem_range] at yA;have q := yA j (jH.1 h1).1;simp only [h1, h3, ff, Bool.or_false, qL, tx] at q;rcases q with q | q
          · exact absurd (gl q) h2
          · exact q
        exact bO _ _ (he.ok ok hd) yI e6
      · rw [mJ.1.hot, mJ.2] at aR; cases aR.1
      · have fB : dL (some hs) o = true := oe
        rw [aR.2] at fB; cases fB
      · cases oe
      · rw [aR.2] at fB; cases fB
      · rw [aR.2] at fB; cases fB
def e4 (P : Program) (c : Code) (Q : Exit → aG → az → Prop) (R : aG) (s : az) : Prop :=
  s.cJ → ∀ bo bG a w, oY bo bG R s a w → ka P c (fun x a' w' => ∃ aw s', s'.cJ ∧ oY bo bG aw s' a' w' ∧ Q x aw s') a w
def H5 (l : List Oper) (ord hs : List Nat) : Bool := ((uV l.toArray ord).isEmpty || hs.isEmpty) && Nat.beq ord.length l.length && zi ord && (List.range l.length).all (fun i => ord.contains i) && ord.all (fun i => Nat.blt i l.length) && zd l.toArray (uV l.toArray ord) hs ord (Array.replicate l.length false)
variable {Q : Exit → aG → az → Prop} {x y c : Code}
theorem ll (ord hs : List Nat) {id : Nat} {l cw : List Oper} (eG : H5 l ord hs = true) (hm : P.follows .mixedOrders = true) (hl : getAll l ord = some cw)
    (h : ct P l.toArray (some hs) (fun R s => (uV l.toArray ord).all (lS s) = true ∧ Q .normal R s) cw R s) : e4 P (.region id l.toArray true) Q R s := by
  intro ok bo bG a w ar;refine RF hm fun ro => ?_;unfold H5 at eG;simp only [dx, cb, List.mem_range, List.contains_eq_mem, ca] at eG;obtain ⟨⟨⟨⟨⟨uf, fN⟩, b1⟩, b2⟩, dQ⟩, dz⟩ := eG;obtain ⟨g1, g2⟩ := Fs _ _ hl;obtain ⟨A, ad, ar⟩ := ar;have hd : eo bo bG R s a { w with drawn := w.drawn + 1 } A ad := ar.next (ar.rel.call ((Below.refl _ w).drew))
  refine LZ (K := Q .normal) (hs := hs) (fun aw s' a' w' du cg af => ⟨aw, s', du, cg, af⟩) _ _ R s a _ ok ⟨A, ad, hd⟩ ?_;have nd := Hy _ b1;have hlen : ord.length = l.length := gl fN;have := LY (ops := l.toArray) (hs := hs) (by simpa [qL, List.isEmpty_iff] using uf) ord cw (Array.replicate l.length false) R s g1 (by simpa using g2) (fun q ak => by have := dQ q ak; simp [Nat.blt_eq] at this; simp [this]) (fun q ak _ => b2 q (by simpa using ak)) nd (fun k o af => by exfalso; rcases hM k l.length with q | q <;> simp [Array.getElem?_replicate, q] at af) ok dz h;rw [g1, hlen] at this;simpa using this
theorem dj (ord : List Nat) {id : Nat} {l cw : List Oper} (eG : H5 l ord [] = true) (hm : P.follows .mixedOrders = true) (hl : getAll l ord = some cw)
    (h : ct P l.toArray (some []) (fun R s => (uV l.toArray ord).all (lS s) = true ∧ Q .normal R s) cw R s) : e4 P (.region id l.toArray true) Q R s := ll ord [] eG hm hl h
theorem L6 {ro : Option Nat} {K : aG → az → Prop} {Q : Exit → Act → World → Prop} (kF : ∀ aw s' a' w', s'.cJ → oY bo bG aw s' a' w' → K aw s' → Q .normal a' w') : ∀ (l : List Oper) (k : Nat) (R : aG) (s : az) (a : Act) (w : World), (∀ (j : Nat), l[j]? = ops[k + j]?) → s.cJ → oY bo bG R s a w →
    ct P ops dr K l R s → wpOpsIn (l3 ro) 0 P ops Q ((List.range l.length).map (k + ·)) a w
  | [], _, _, _, _, _, _, ok, ar, h => kF _ _ _ _ ok ar h
  | o :: l, k, R, s, a, w, hl, ok, ar, h => by
    have aA : ops[k]? = some o := by simpa using (hl 0).symm
    have e : (List.range (o :: l).length).map (k + ·) = k :: (List.range l.length).map (k + 1 + ·) := by
      rw [jZ, List.range_succ_eq_map, kQ, List.map_map];congr 1;apply oI;intro j _;simp [Nat.add_assoc, Nat.add_comm 1 j]
    rw [e, wpOpsIn_cons];refine L9 aA ok ar h fun aw s' a' w' du cg af => L6 kF l (k + 1) aw s' a' w' (fun j => by have := hl (j + 1); simpa [Nat.add_assoc, Nat.add_comm 1 j] using this) du cg af
theorem QY {id : Nat} {l : List Oper} (h : ct P l.toArray none (Q .normal) l R s) : e4 P (.region id l.toArray false) Q R s := by
  intro ok bo bG a w ar;refine RE fun ro => ?_;have := L6 (ro := ro) (ops := l.toArray) (K := Q .normal) (Q := fun e a' w' => ∃ aw s', s'.cJ ∧ oY bo bG aw s' a' w' ∧ Q e aw s') (fun aw s' a' w' du cg af => ⟨aw, s', du, cg, af⟩) l 0 R s a w (by simp) ok ar h;simpa using this
def zK (next : aG → az → Prop) (Q : Exit → aG → az → Prop) : Exit → aG → az → Prop
  | .normal, R, s => next R s
  | e, R, s => Q e R s
def w0 (id : Nat) (Q : Exit → aG → az → Prop) : Exit → aG → az → Prop
  | .exit pz, R, s => bif Nat.beq pz id then Q .normal R s else Q (.exit pz) R s
  | e, R, s => Q e R s
theorem aeE (h : e2 P c (fun x s' => Q x R s') s) : e4 P c Q R s := by
  rintro ok bo bG a w ⟨A, ad, ar⟩;refine qV (h ok (mI bo s ad w) A ad a w ar.rel) ?_;rintro x a' w' ⟨s', aY, du, cg, ak⟩;exact ⟨R, s', du, ⟨A, aY, ar.next cg⟩, ak⟩
theorem Ih (h : e4 P x (zK (fun R s => e4 P y Q R s) Q) R s) : e4 P (.seq x y) Q R s := by
  intro ok bo bG a w cH;refine RH (qV (h ok bo bG a w cH) ?_);rintro x a' w' ⟨aw, s', du, l7, ak⟩;cases x <;> first | exact ak du bo bG a' w' l7 | exact ⟨aw, s', du, l7, ak⟩
theorem QZ (h : Q .normal R s) : e4 P .skip Q R s := fun ok bo bG a w ar => RI ⟨R, s, ok, ar, h⟩
theorem aeH {id : Nat} (h : Q (.exit id) R s) : e4 P (.exit id) Q R s := fun ok bo bG a w ar => RC ⟨R, s, ok, ar, h⟩
theorem aeI (h : Q .ret R s) : e4 P .ret Q R s := fun ok bo bG a w ar => RG ⟨R, s, ok, ar, h⟩
theorem aeF {id : Nat} (h : e4 P x (w0 id Q) R s) : e4 P (.block id x) Q R s := by
  intro ok bo bG a w cH;refine RA (qV (h ok bo bG a w cH) ?_);rintro x a' w' ⟨aw, s', du, l7, ak⟩;cases x with
  | exit pz =>
    simp only [Exit.inBlock];simp only [w0] at ak;cases ab : Nat.beq pz id with
    | true => rw [ab] at ak; rw [if_pos (gl ab)]; exact ⟨aw, s', du, l7, ak⟩
    | false =>
      rw [ab] at ak;have : pz ≠ id := fun e => by subst e; rw [Nat.beq_refl] at ab; cases ab
      rw [if_neg this]; exact ⟨aw, s', du, l7, ak⟩
  | _ => exact ⟨aw, s', du, l7, ak⟩
theorem QV {c : Operand} {b : Bool} (aj : s.look c = some (bf b)) (h1 : b = true → e4 P x Q R s) (aA : b = false → e4 P y Q R s) : e4 P (.cond c x y) Q R s := by
  rintro ok bo bG a w ⟨A, ad, ar⟩;have hv : a.eval c = .bool b := (ar.rel.look aj).1;refine RB hv ?_;cases b with
  | true => exact h1 rfl ok bo bG a w ⟨A, ad, ar⟩
  | false => exact aA rfl ok bo bG a w ⟨A, ad, ar⟩
theorem aeG {c : Operand} {b : Bool} (aj : s.look c = some (bf b)) (ab : b = true) (h1 : e4 P x Q R s) : e4 P (.cond c x y) Q R s := QV aj (fun _ => h1) fun e => by rw [ab] at e; cases e
theorem QW {c : Operand} {b : Bool} (aj : s.look c = some (bf b)) (ab : b = false) (aA : e4 P y Q R s) : e4 P (.cond c x y) Q R s := QV aj (fun e => by rw [ab] at e; cases e) fun _ => aA
theorem j7 (N : Nat) (I : Nat → aG → List (Nat × ah) → List (Nat × List AC) → Prop) (k : Nat) (R0 : aG) (aL : List (Nat × ah)) (bj : List (Nat × List AC)) (bh : I k R0 aL bj) (hl : bt R0 R) (au : N = s.n) (ax : n3 s.tmps aL) (hm : n3 s.mem bj) (c3 : okB aL bj = true)
    (round : ∀ k R aL bj, I k R aL bj → okB aL bj = true → e4 P x (zK (fun aw s' => ∃ k' AE oO ow, k' < k ∧ I k' AE oO ow ∧ bt AE aw ∧ N = s'.n ∧ n3 s'.tmps oO ∧ n3 s'.mem ow ∧ okB oO ow = true) Q) R (te N aL bj)) : e4 P (.loop x) Q R s := by
  rintro ok bo bG a w ⟨A, ad, ar⟩;refine RD (fun k a w => ∃ R aL bj, I k R aL bj ∧ okB aL bj = true ∧ oY bo bG R (te N aL bj) a w) (n := k) ⟨R0, aL, bj, bh, c3, A, ad, (ar.le hl).NL (CA au ax hm)⟩ ?_;rintro k a w ⟨R, aL, bj, bh, ok, cH⟩;refine qV (round k R aL bj bh ok (Hi ok) bo bG a w cH) ?_;rintro x a' w' ⟨aw, s', du, ⟨dH, aY, l7⟩, ak⟩;cases x with
  | normal =>
    obtain ⟨k', AE, oO, ow, h1, h2, h3, aE, cZ, ff, js⟩ := ak;exact ⟨k', h1, AE, oO, ow, h2, js, dH, aY, (l7.le h3).NL (CA aE cZ ff)⟩
  | _ => exact ⟨aw, s', du, ⟨dH, aY, l7⟩, ak⟩
theorem rb {Q : Exit → az → Prop} (h : e4 P c (fun x aw s' => Q x s') fO s) : e2 P c Q s := by
  intro ok B A ad a w ar;have cH : eo B A fO s a w A ad := ⟨ar.up, fun _ h => h, ar.hot fun b h => ar.up b (h8 ar.below.size h), fun k cs af => (ar.dt k cs af).choose_spec.choose_spec.2.2, ar.below, fun i r hi => (by cases hi), fun i j r q hi => (by cases hi), fun i r g hi => (by cases hi), ar.jS⟩;refine qV (h ok B A a w ⟨A, ad, cH⟩) ?_;rintro x a' w' ⟨aw, s', du, ⟨gV, eK, h1⟩, ak⟩;exact ⟨s', eK, du, h1.rel.xR (fun b ab _ => ⟨h1.sub b ab, rfl⟩) (fun k cs af => ⟨rfl, h1.ov k cs af⟩) h1.below ar.up h1.jS, ak⟩
theorem nS (i e sz : Nat) (hi : R i = none) (h : e4 P c Q (bA R i ⟨e, sz, .slice none 0 0, 0, []⟩) s) (bB : 0 < sz := by decide) : e4 P c Q R s := by
  rintro ok bo bG a w ⟨A, ad, ar⟩;have kp : ∀ g, ¬ (⟨e, sz, .slice none 0 0, 0, []⟩ : bz).own g := fun g ao => by have := bz.oA ao bB; cases this
  refine h ok bo bG a w ⟨A, ad, ar.up, ar.sub, ar.rel, ar.ov, ar.below, fun j r ae => ?_, fun j k r q ae af kn g ao => ?_, fun j r g ae ao => ?_, ar.jS⟩
  · by_cases bm : j = i
    · subst bm
      rw [cf] at ae;cases ae;exact ⟨.inl ⟨bB, [], World.ownsRow_nil w 0 e sz, rfl, fun i x v aa => by simp at aa⟩, fun y ai => (by cases ai), fun g ao => absurd ao (kp g)⟩
    · rw [b3 _ _ bm] at ae; exact ar.rows j r ae
  · by_cases aF : j = i
    · subst aF; rw [cf] at ae; cases ae; exact absurd ao (kp g)
    · rw [b3 _ _ aF] at ae
      by_cases aN : k = i
      · subst aN; rw [cf] at af; cases af; exact kp g
      · rw [b3 _ _ aN] at af; exact ar.apart j k r q ae af kn g ao
  · by_cases aF : j = i
    · subst aF; rw [cf] at ae; cases ae; exact absurd ao (kp g)
    · rw [b3 _ _ aF] at ae; exact ar.hot j r g ae ao
theorem zN (i d : Nat) (r : bz) (hi : R i = some r) (hd : s.tmps d = some (aM r.v)) (h : e4 P c Q (fun j => if j = i then none else R j) (s.put (some d) (cz r.sz r.n r.aO))) (bB : 0 < r.sz := by first | decide | exact jk _) : e4 P c Q R s := by
  rintro ok bo bG a w ⟨A, ad, ar⟩
  have fG : d < s.n := by
    obtain ⟨v, h1, _⟩ := ar.rel.gE d _ hd;rw [← ar.rel.size];exact (jH.1 h1).1
  obtain ⟨dH, BD⟩ := ar.ui i d r hi bB hd fG;exact h (ok.put fun j ae => absurd ae (lf _ j)) bo bG a w ⟨dH, ad, BD⟩
theorem hX {K : aG → az → Prop} {rest : List Oper} (ax : qz dr s.look o = true) (h : a7 P ops (fun s' => ct P ops dr K rest R s') [o] s) : ct P ops dr K (o :: rest) R s := by
  obtain ⟨b, hw, e, he, hd, af⟩ := h;exact ⟨b, hw, hd, .inl ⟨e, .kB b e he ax, af⟩⟩
theorem MR {K : aG → az → Prop} (h : K R s) : ct P ops dr K [] R s := h
theorem Ys {K : aG → az → Prop} {hL : List (Nat × Nat)} (hs : hL.all (lS s) = true) (h : K R s) : ct P ops dr (fun R s => hL.all (lS s) = true ∧ K R s) [] R s := ⟨hs, h⟩
variable {d ty : Nat} {pos : String} {after : Array Edge} {guard : Option (Nat × Bool)} {K : aG → az → Prop} {rest : List Oper}
theorem yQ {op : Op} {av : ah} (hw : want ops ⟨some d, op, ty, pos, after, guard⟩ s = some true) (ak : kw P R s.look ⟨some d, op, ty, pos, after, guard⟩ av) (aj : av.aV = true) (al : tD ops dr (some d) = true) (hd : Nat.blt d s.n = true) (h : ct P ops dr K rest R (s.put (some d) av)) : ct P ops dr K (⟨some d, op, ty, pos, after, guard⟩ :: rest) R s :=
  ⟨true, hw, jT hd, .inl ⟨⟨av, none⟩, .read av ak (ah.dd aj) al, h⟩⟩
theorem mP {x : Operand} {t z : Nat} {r : bz} (i : Nat) [S : hQ P t z] (hi : R i = some r) (hw : want ops ⟨some d, .call ⟨.builtin .len, #[x], #[t]⟩, ty, pos, after, guard⟩ s = some true) (aa : s.look x = some (aM r.v)) (bB : Nat.blt 0 r.sz = true) (al : tD ops dr (some d) = true) (hd : Nat.blt d s.n = true) (h : ct P ops dr K rest R (s.put (some d) (aB r.n))) : ct P ops dr K (⟨some d, .call ⟨.builtin .len, #[x], #[t]⟩, ty, pos, after, guard⟩ :: rest) R s :=
  yQ hw (.len i r t z x hi (by simpa [Nat.blt_eq] using bB) rfl aa S.h) rfl al hd h
theorem jd {x y : Operand} {t z : Nat} {r : bz} {gx : IntKind} {j : Int} (i : Nat) [S : hQ P t z] (hi : R i = some r) (hw : want ops ⟨some d, .indexAddr t x y, ty, pos, after, guard⟩ s = some true) (aa : s.look x = some (aM r.v)) (ai : s.look y = some (aM (.int gx j))) (aA : 0 ≤ j) (h1 : j < r.n) (aI : z = r.sz) (al : tD ops dr (some d) = true) (hd : Nat.blt d s.n = true) (h : ct P ops dr K rest R (s.put (some d) (aM (jn r.v (j.toNat * z))))) : ct P ops dr K (⟨some d, .indexAddr t x y, ty, pos, after, guard⟩ :: rest) R s := by
  subst aI;exact yQ hw (.idx i r t x y gx j hi rfl aa ai aA h1 S.h) rfl al hd h
theorem mQ {x : Operand} {lt n off : Nat} {r : bz} {zs : List AC} (i : Nat) [T : e5 P lt true n] (hi : R i = some r) (hw : want ops ⟨some d, .load lt x, ty, pos, after, guard⟩ s = some true) (aa : s.look x = some (aM (jn r.v off))) (au : 0 < r.n) (aI : off + n ≤ r.aO.length ∧ (r.aO.drop off).take n = zs) (aj : (ah.w (.agg zs)).aV = true) (al : tD ops dr (some d) = true) (hd : Nat.blt d s.n = true) (h : ct P ops dr K rest R (s.put (some d) (.w (.agg zs)))) : ct P ops dr K (⟨some d, .load lt x, ty, pos, after, guard⟩ :: rest) R s :=
  yQ hw (.load i r off lt x _ hi au rfl aa (by
    have cy := T.h;unfold j8 at cy;unfold pick;rw [← aI.2];cases hu : P.underlying lt with
    | none => rw [hu] at cy; cases cy
    | some D =>
      cases hc : P.info? lt with
      | none => rw [hu, hc] at cy; cases D <;> cases cy
      | some ev =>
        rw [hu, hc] at cy;cases D <;> simp at cy <;> (subst cy; simp [aI.1]))) aj al hd h
theorem yL {tt bytes m : Nat} {r : bz} {gS hz : Operand} {news : List AC} (i : Nat) (hi : R i = some r) [T : l0 P tt r.e r.sz bytes] (hw : want ops ⟨some d, .call ⟨.builtin .append, #[gS, hz], #[tt, tt]⟩, ty, pos, after, guard⟩ s = some true) (aa : s.look gS = some (aM r.v)) (ai : s.look hz = some (cz r.sz m news)) (aA : 0 < m ∨ 0 < r.n) (h1 : r.n + m ≤ maxLen) (h2 : (r.n + m) * bytes ≤ 140737488355328) (aj : news.all AC.aV = true) (hd : Nat.blt d s.n = true)
    (h : ∀ v', v'.oneCell' = true → ct P ops dr K rest (bA R i ⟨r.e, r.sz, v', r.n + m, r.aO ++ news⟩) (s.put (some d) (aM v'))) (l8 : pa dr ⟨some d, .call ⟨.builtin .append, #[gS, hz], #[tt, tt]⟩, ty, pos, after, guard⟩ = false := by exact rfl) : ct P ops dr K (⟨some d, .call ⟨.builtin .append, #[gS, hz], #[tt, tt]⟩, ty, pos, after, guard⟩ :: rest) R s :=
  ⟨true, hw, jT hd, .inr (.inl ⟨rfl, d, _, _, rfl, ⟨.sC i r tt bytes m gS hz news hi rfl T.h aa ai h1 h2 (cb.1 aj), l8⟩, h⟩)⟩
theorem Yr {t n e sz bytes : Nat} {parts : List (Nat × Operand)} {vs : List Value} {zs : List (Nat × br)} {r : List AC} (i : Nat) (hi : R i = none) [T : l0 P t e sz bytes] [Z : nn P t vs] (hw : want ops ⟨some d, .buildSlice t n parts.toArray, ty, pos, after, guard⟩ s = some true) (aI : mf s.look parts = some zs) (ab : o7 (u7 n sz) (hA n sz vs) zs = some r)
    (h1 : (vs.all fun v => v.oneCell') = true) (hs : Nat.beq vs.length sz = true) (aA : Nat.blt 0 (n * sz) = true) (h2 : Nat.ble (n * sz) 16777216 = true) (h3 : n ≤ maxLen) (al : Nat.beq r.length (n * sz) = true) (cA : r.all AC.aV = true) (hd : Nat.blt d s.n = true)
    (h : ∀ v', v'.oneCell' = true → ct P ops dr K rest (bA R i ⟨e, sz, v', n, r⟩) (s.put (some d) (aM v'))) (l8 : pa dr ⟨some d, .buildSlice t n parts.toArray, ty, pos, after, guard⟩ = false := by exact rfl) : ct P ops dr K (⟨some d, .buildSlice t n parts.toArray, ty, pos, after, guard⟩ :: rest) R s :=
  ⟨true, hw, jT hd, .inr (.inl ⟨rfl, d, _, _, rfl, ⟨.new i t n e sz bytes parts vs zs r hi rfl T.h Z.h aI ab h1 (gl hs) (by simpa [Nat.ble_eq] using h2) h3 (gl al) (cb.1 cA), l8⟩, h⟩)⟩
theorem qs {tt bytes m : Nat} {r : bz} {gS hz : Operand} {news : List AC} (i : Nat) (hi : R i = some r) [T : l0 P tt r.e r.sz bytes] (hw : want ops ⟨some d, .call ⟨.builtin .append, #[gS, hz], #[tt, tt]⟩, ty, pos, after, guard⟩ s = some true) (aa : s.look gS = some (aM r.v)) (ai : s.look hz = some (cz r.sz m news)) (h1 : r.n + m ≤ maxLen) (h2 : (r.n + m) * bytes ≤ 140737488355328) (aj : news.all AC.aV = true) (hd : Nat.blt d s.n = true)
    (h : ∀ v', v'.oneCell' = true → ct P ops dr K rest (bA R i ⟨r.e, r.sz, v', r.n + m, r.aO ++ news⟩) (s.put (some d) (aM v'))) (l8 : pa dr ⟨some d, .call ⟨.builtin .append, #[gS, hz], #[tt, tt]⟩, ty, pos, after, guard⟩ = false := by exact rfl) : ct P ops dr K (⟨some d, .call ⟨.builtin .append, #[gS, hz], #[tt, tt]⟩, ty, pos, after, guard⟩ :: rest) R s :=
  ⟨true, hw, jT hd, .inr (.inl ⟨rfl, d, _, _, rfl, ⟨.sC i r tt bytes m gS hz news hi rfl T.h aa ai h1 h2 (cb.1 aj), l8⟩, h⟩)⟩
theorem MM {tt bytes m k : Nat} {r : bz} {gS hz : Operand} {news zs : List AC} (i : Nat) (hi : R i = some r) [T : l0 P tt r.e r.sz bytes] (hw : want ops ⟨some d, .call ⟨.builtin .append, #[gS, hz], #[tt, tt]⟩, ty, pos, after, guard⟩ s = some true) (aa : s.look gS = some (aM r.v)) (ai : s.look hz = some (cz r.sz m news)) (h1 : r.n + m ≤ maxLen) (h2 : (r.n + m) * bytes ≤ 140737488355328) (af : r.n + m = k) (aI : r.aO ++ news = zs) (aj : news.all AC.aV = true) (hd : Nat.blt d s.n = true)
    (h : ct P ops none K rest (fun j => if j = i then none else R j) (s.put (some d) (cz r.sz k zs))) : ct P ops none K (⟨some d, .call ⟨.builtin .append, #[gS, hz], #[tt, tt]⟩, ty, pos, after, guard⟩ :: rest) R s := by
  subst af aI;refine ⟨true, hw, jT hd, .inr (.inr (.inr (.inl ⟨rfl, rfl, d, _, i, fun v' => ⟨r.e, r.sz, v', r.n + m, r.aO ++ news⟩, rfl, .sC i r tt bytes m gS hz news hi rfl T.h aa ai h1 h2 (cb.1 aj), fun v' => ⟨cf _ _ _, rfl, (qP T.h).choose_spec.choose_spec.2.2.2.2.2.2⟩, fun v' hv => ?_⟩)))⟩
  have : (fun j => if j = i then none else bA R i ⟨r.e, r.sz, v', r.n + m, r.aO ++ news⟩ j) = fun j => if j = i then none else R j := by
    funext j
    by_cases e : j = i
    · rw [if_pos e, if_pos e]
    · rw [if_neg e, if_neg e, b3 _ _ e]
  rw [this];exact h
theorem MQ {t e sz bytes : Nat} {vs : List Value} (i : Nat) (hi : R i = none) [T : l0 P t e sz bytes] [Z : nn P t vs] (hw : want ops ⟨some d, .buildSlice t 0 #[], ty, pos, after, guard⟩ s = some true)
    (h1 : (vs.all fun v => v.oneCell') = true) (hs : Nat.beq vs.length sz = true) (hd : Nat.blt d s.n = true)
    (h : ∀ v', v'.oneCell' = true → ct P ops dr K rest (bA R i ⟨e, sz, v', 0, []⟩) (s.put (some d) (aM v'))) (l8 : pa dr ⟨some d, .buildSlice t 0 #[], ty, pos, after, guard⟩ = false := by exact rfl) : ct P ops dr K (⟨some d, .buildSlice t 0 #[], ty, pos, after, guard⟩ :: rest) R s :=
  ⟨true, hw, jT hd, .inr (.inl ⟨rfl, d, _, _, rfl, ⟨.new i t 0 e sz bytes [] vs [] [] hi rfl T.h Z.h rfl (by simp [hA, o7]) h1 (gl hs) (by simp) (dA _) (by simp) (fun y ai => by cases ai), l8⟩, h⟩)⟩
theorem yO {t l c' e sz bytes : Nat} {x y : Operand} {ou pA : IntKind} {vs : List Value} (i : Nat) (hi : R i = none) [T : l0 P t e sz bytes] [Z : nn P t vs] (hw : want ops ⟨some d, .makeSlice t x y, ty, pos, after, guard⟩ s = some true) (aa : s.look x = some (aM (.int ou l))) (ai : s.look y = some (aM (.int pA c'))) (hl : l ≤ c')
    (h1 : (vs.all fun v => v.oneCell') = true) (hs : Nat.beq vs.length sz = true) (h2 : bytes * c' ≤ 281474976710656) (h3 : c' ≤ maxLen) (hd : Nat.blt d s.n = true)
    (h : ∀ v', v'.oneCell' = true → ct P ops dr K rest (bA R i ⟨e, sz, v', l, hA l sz vs⟩) (s.put (some d) (aM v'))) (l8 : pa dr ⟨some d, .makeSlice t x y, ty, pos, after, guard⟩ = false := by exact rfl) : ct P ops dr K (⟨some d, .makeSlice t x y, ty, pos, after, guard⟩ :: rest) R s :=
  ⟨true, hw, jT hd, .inr (.inl ⟨rfl, d, _, _, rfl, ⟨.make i t l c' e sz bytes x y ou pA vs hi rfl T.h Z.h aa ai hl h1 (gl hs) h2 h3, l8⟩, h⟩)⟩
theorem Yp {tt t2 m z k : Nat} {r : bz} {x y : Operand} {news zs : List AC} (i : Nat) [S : hQ P tt z] (hi : R i = some r) (hw : want ops ⟨some d, .call ⟨.builtin .copy, #[x, y], #[tt, t2]⟩, ty, pos, after, guard⟩ s = some true) (aa : s.look x = some (aM r.v)) (ai : s.look y = some (cz z m news)) (aI : z = r.sz) (bB : Nat.blt 0 r.sz = true) (aj : news.all AC.aV = true) (hd : Nat.blt d s.n = true) (af : Nat.min m r.n = k) (he : eu r.aO 0 (news.take (k * r.sz)) = zs) (l8 : pa dr ⟨some d, .call ⟨.builtin .copy, #[x, y], #[tt, t2]⟩, ty, pos, after, guard⟩ = false)
    (h : ct P ops dr K rest (bA R i ⟨r.e, r.sz, r.v, r.n, zs⟩) (s.put (some d) (aB (k : Int)))) : ct P ops dr K (⟨some d, .call ⟨.builtin .copy, #[x, y], #[tt, t2]⟩, ty, pos, after, guard⟩ :: rest) R s := by
  subst aI af he;refine ⟨true, hw, jT hd, .inr (.inl ⟨rfl, d, _, _, rfl, ⟨.copy i r tt t2 m 0 r.n x y news hi (by simpa [Nat.blt_eq] using bB) rfl S.h (.inl ⟨aa, rfl, rfl⟩) (.inl ai) (dA _) (dl _) (cb.1 aj), l8⟩, fun v' hv => ?_⟩)⟩;subst hv;simpa using h
theorem MN {tt t2 m z k lo hi : Nat} {u : Value} {r : bz} {x y : Operand} {news zs : List AC} (i : Nat) [S : hQ P tt z] (cP : R i = some r) (hw : want ops ⟨some d, .call ⟨.builtin .copy, #[x, y], #[tt, t2]⟩, ty, pos, after, guard⟩ s = some true) (aa : s.look x = some (aM u)) (hu : iE r.v r.sz lo hi u) (ai : s.look y = some (cz z m news)) (aI : z = r.sz) (bB : Nat.blt 0 r.sz = true) (h1 : lo ≤ hi) (h2 : hi ≤ r.n) (aj : news.all AC.aV = true) (hd : Nat.blt d s.n = true) (af : Nat.min m (hi - lo) = k) (he : eu r.aO (lo * r.sz) (news.take (k * r.sz)) = zs) (l8 : pa dr ⟨some d, .call ⟨.builtin .copy, #[x, y], #[tt, t2]⟩, ty, pos, after, guard⟩ = false)
    (h : ct P ops dr K rest (bA R i ⟨r.e, r.sz, r.v, r.n, zs⟩) (s.put (some d) (aB (k : Int)))) : ct P ops dr K (⟨some d, .call ⟨.builtin .copy, #[x, y], #[tt, t2]⟩, ty, pos, after, guard⟩ :: rest) R s := by
  subst aI af he;exact ⟨true, hw, jT hd, .inr (.inl ⟨rfl, d, _, _, rfl, ⟨.copy i r tt t2 m lo hi x y news cP (by simpa [Nat.blt_eq] using bB) rfl S.h (.inr (.inr ⟨u, aa, hu⟩)) (.inl ai) h1 h2 (cb.1 aj), l8⟩, fun v' hv => by subst hv; exact h⟩)⟩
theorem Yq {tt t2 m z k lo hi eb dN : Nat} {u cm : Value} {r : bz} {x y : Operand} {zs : List AC} (i : Nat) [S : hQ P tt z] (cP : R i = some r) (hw : want ops ⟨some d, .call ⟨.builtin .copy, #[x, y], #[tt, t2]⟩, ty, pos, after, guard⟩ s = some true) (aa : s.look x = some (aM u)) (hu : iE r.v r.sz lo hi u) (ai : s.look y = some (aM cm)) (YB : iE r.v r.sz eb dN cm) (hm : eb + m = dN) (da : dN ≤ r.n) (aI : z = r.sz) (bB : Nat.blt 0 r.sz = true) (h1 : lo ≤ hi) (h2 : hi ≤ r.n) (aj : r.aO.all AC.aV = true) (hd : Nat.blt d s.n = true) (af : Nat.min m (hi - lo) = k) (he : eu r.aO (lo * r.sz) (((r.aO.drop (eb * r.sz)).take (m * r.sz)).take (k * r.sz)) = zs) (l8 : pa dr ⟨some d, .call ⟨.builtin .copy, #[x, y], #[tt, t2]⟩, ty, pos, after, guard⟩ = false)
    (h : ct P ops dr K rest (bA R i ⟨r.e, r.sz, r.v, r.n, zs⟩) (s.put (some d) (aB (k : Int)))) : ct P ops dr K (⟨some d, .call ⟨.builtin .copy, #[x, y], #[tt, t2]⟩, ty, pos, after, guard⟩ :: rest) R s := by
  subst hm aI af he;exact ⟨true, hw, jT hd, .inr (.inl ⟨rfl, d, _, _, rfl, ⟨.copy i r tt t2 m lo hi x y _ cP (by simpa [Nat.blt_eq] using bB) rfl S.h (.inr (.inr ⟨u, aa, hu⟩)) (.inr ⟨i, r, eb, cm, cP, rfl, ai, YB, da, rfl⟩) h1 h2 (fun q ak => cb.1 aj q (mm (nN ak))), l8⟩, fun v' hv => by subst hv; exact h⟩)⟩
theorem yR {x y : Operand} {st off : Nat} {r : bz} {z : br} {ev : TypeInfo} (i : Nat) (hi : R i = some r) (hw : want ops ⟨none, .store st x y, ty, pos, after, guard⟩ s = some true) (aa : s.look x = some (aM (jn r.v off))) (ai : s.look y = some (.w z)) (au : 0 < r.n) (ax : P.info? st = some ev) (hs : ev.size = z.cells.length) (ab : off + z.cells.length ≤ r.aO.length) (aj : z.cells.all AC.aV = true)
    (h : ct P ops dr K rest (bA R i ⟨r.e, r.sz, r.v, r.n, eu r.aO off z.cells⟩) s) (iP : Rc dr ⟨none, .store st x y, ty, pos, after, guard⟩ = true := by exact rfl) : ct P ops dr K (⟨none, .store st x y, ty, pos, after, guard⟩ :: rest) R s :=
  ⟨true, hw, (fun d hd => by cases hd), .inr (.inr (.inl ⟨rfl, iP, _, rfl, .store i r off st x y z ev hi au rfl aa ai ax hs ab (cb.1 aj), h⟩))⟩
theorem yN {x : Operand} {lt off : Nat} {r : bz} {c1 : AC} (i : Nat) [T : e5 P lt false 1] (hi : R i = some r) (hw : want ops ⟨some d, .load lt x, ty, pos, after, guard⟩ s = some true) (aa : s.look x = some (aM (jn r.v off))) (au : 0 < r.n) (aI : r.aO[off]? = some c1) (aj : (ah.w (.one c1)).aV = true) (al : tD ops dr (some d) = true) (hd : Nat.blt d s.n = true) (h : ct P ops dr K rest R (s.put (some d) (.w (.one c1)))) : ct P ops dr K (⟨some d, .load lt x, ty, pos, after, guard⟩ :: rest) R s :=
  yQ hw (.load i r off lt x _ hi au rfl aa (by
    have cy := T.h;unfold j8 at cy;unfold pick;cases hu : P.underlying lt with
    | none => rw [hu] at cy; cases cy
    | some D =>
      cases hc : P.info? lt with
      | none => rw [hu, hc] at cy; cases D <;> simp at cy <;> simp [aI]
      | some ev =>
        rw [hu, hc] at cy;cases D <;> simp at cy <;> simp [aI])) aj al hd h
theorem QP {next : aG → az → Prop} (h : next R s) : zK next Q .normal R s := h
theorem aes {next : aG → az → Prop} {i : Nat} (h : Q (.exit i) R s) : zK next Q (.exit i) R s := h
theorem aet {next : aG → az → Prop} (h : Q .ret R s) : zK next Q .ret R s := h
theorem adR {i : Nat} (h : Q .normal R s) : w0 i Q .normal R s := h
theorem adS {i : Nat} (h : Q .ret R s) : w0 i Q .ret R s := h
theorem adT {i : Nat} (h : Q .normal R s) : w0 i Q (.exit i) R s := by simp only [w0, Nat.beq_refl, cond_true]; exact h
end
section
variable {P : Program} {s : az} {ops : Array Oper} {K : az → Prop} {rest : List Oper} {ty : Nat} {pos : String} {after : Array Edge} {guard : Option (Nat × Bool)} {d : Nat}
theorem T4 {fn : Fn} {xs : List Operand} {cs : List AC} (hw : want ops ⟨some d, .makeFunc fn #[] xs.toArray, ty, pos, after, guard⟩ s = some true) (aa : xs.map s.look = cs.map fun x => some (.w (.one x))) (aj : cs.all AC.aV = true) (hd : Nat.blt d s.n = true) (h : a7 P ops K rest (s.put (some d) (.w (.one (.p (oT fn cs)))))) : a7 P ops K (⟨some d, .makeFunc fn #[] xs.toArray, ty, pos, after, guard⟩ :: rest) s := by
 have hlen : xs.length = cs.length := by have := congrArg List.length aa; simpa using this
 have gf : ∀ (i : Nat) (z : Operand), xs[i]? = some z → ∃ x, cs[i]? = some x ∧ s.look z = some (.w (.one x)) := fun i z aI => by
  have h1 : (xs.map s.look)[i]? = some (s.look z) := by rw [ef, aI]; rfl
  rw [aa, ef] at h1;cases ak : cs[i]? with
  | none => rw [ak] at h1; cases h1
  | some x => rw [ak] at h1; exact ⟨x, rfl, (lP h1).symm⟩
 refine fF (av := .w (.one (.p (oT fn cs)))) hw ⟨fun _ _ h => (by cases h), fun z aI => ?_, fun U ad W env he => ⟨.func fn #[] (xs.map env).toArray, ?_, ?_⟩, fun j ae => absurd ae (lf _ j)⟩ hd h
 ·simp [Op.operands] at aI;obtain ⟨i, hi⟩ := jh aI;obtain ⟨x, _, h2⟩ := gf i z hi;exact ⟨_, h2⟩
 ·simp [execOp, Instr.makeFunc]
 ·have jc : ∀ (i : Nat) (x : AC) (u : Value), cs[i]? = some x → (xs.map env)[i]? = some u → gd U ad W x u := fun i x u wH hu => by
   rw [ef] at hu;cases aI : xs[i]? with
   | none => rw [aI] at hu; cases hu
   | some z =>
    rw [aI] at hu;cases hu;obtain ⟨x', h1, h2⟩ := gf i z aI;rw [wH] at h1;cases h1;exact he z (by simp [Op.operands]; exact c5 aI) _ h2
  have cA : ∀ x ∈ cs, ∀ j, ¬ x.owns j := fun x aa j => AC.dd (cb.1 aj x aa) j;refine ⟨⟨xs.map env, rfl, ⟨by simpa using hlen.symm, fun i x u wH hu => ?_⟩, cA⟩, ?_⟩
  ·have h1 := jc i x u wH hu;cases x with
   | c y => exact h1
   | own k o => exact absurd rfl (cA _ (c5 wH) k)
   | p R => exact ⟨h1.1, fun _ _ => trivial⟩
  ·rintro b ⟨vl, e, i, x, u, wH, hu, ab⟩;have bm : xs.map env = vl := by simpa using e
   subst bm;have h1 := jc i x u wH hu;cases x with
   | c y => cases ab
   | own k o => cases ab
   | p R => exact h1.2 b ab
end
def sN (s : az) (k j : Nat) : Bool := !(Nat.beq j k) && (match s.mem j with | some ds => ds.all AC.aV | none => false)
def Bs (s : az) (k : Nat) (cs : List AC) : Option ah → Option ah
 | some (.w (.one (.own j off))) => bif Nat.beq j k then some (.w (.one (.p (Eg (cs.drop off))))) else bif sN s k j then some (.w (.one (.own j off))) else none
 | some av => bif av.aV then some av else none
 | none => none
def oa (s : az) (k : Nat) (cs : List AC) : az := ⟨s.n, fun t => Bs s k cs (s.tmps t), fun j => bif sN s k j then s.mem j else none⟩
theorem Fp {s : az} {k j : Nat} (h : sN s k j = true) : j ≠ k ∧ ∃ ds, s.mem j = some ds ∧ ds.all AC.aV = true := by
 unfold sN at h;simp only [dx, tx] at h;refine ⟨fun e => by subst e; simp at h, ?_⟩;cases hm : s.mem j with
 | none => rw [hm] at h; simp at h
 | some ds => rw [hm] at h; exact ⟨ds, rfl, h.2⟩
theorem Wn {s : az} {k : Nat} {cs : List AC} (ok : s.cJ) : (oa s k cs).cJ := by
 refine ⟨fun t av j ax ae => ?_, fun i ds x j hi aa ae => ?_⟩
 ·have key : ∀ o, Bs s k cs o = some av → ∃ ds, (oa s k cs).mem j = some ds := by
   intro o ay;unfold Bs at ay
   split at ay
   ·rename_i ek off;cases ab : Nat.beq ek k with
    | true => rw [ab] at ay; simp at ay; subst ay; obtain ⟨y, ai, ae⟩ := ae; simp [br.cells] at ai; subst ai; cases ae
    | false =>
     rw [ab] at ay;cases af : sN s k ek with
     | false => rw [af] at ay; simp at ay
     | true =>
      rw [af] at ay;simp at ay;subst ay;obtain ⟨y, ai, ae⟩ := ae;simp [br.cells] at ai;subst ai;have e : j = ek := ae;subst e;obtain ⟨_, ds, hm, _⟩ := Fp af;exact ⟨ds, by simp only [oa, af, cond_true]; exact hm⟩
   ·rename_i JV _;cases aj : JV.aV with
    | false => rw [aj] at ay; simp at ay
    | true => rw [aj] at ay; simp at ay; subst ay; exact absurd ae (ah.dd aj j)
   ·cases ay
  exact key _ ax
 ·simp only [oa] at hi;cases af : sN s k i with
  | false => rw [af] at hi; simp at hi
  | true =>
   rw [af] at hi;simp at hi;obtain ⟨_, VC, hm, aj⟩ := Fp af;rw [hm] at hi;cases hi;exact absurd ae (AC.dd (cb.1 aj x aa) j)
theorem Wo {s : az} {k : Nat} {cs : List AC} {W : World} {A : Nat → Prop} {ad : Nat → Nat} {a : Act} {w : World} (af : s.mem k = some cs) (cA : cs.all AC.aV = true) (ar : Rel (eP.all W) A s ad a w) : Rel (eP.all W) A (oa s k cs) ad a w := by
 have pq : ∀ j ds, (oa s k cs).mem j = some ds → j ≠ k ∧ s.mem j = some ds := fun j ds ae => by
  simp only [oa] at ae;cases ab : sN s k j with
  | false => rw [ab] at ae; simp at ae
  | true => rw [ab] at ae; simp at ae; exact ⟨(Fp ab).1, ae⟩
 have jv : ∀ b, s.free A ad b → (oa s k cs).free A ad b := fun b ab => ⟨ab.1, fun j ds ae => ab.2 j ds (pq j ds ae).2⟩;obtain ⟨vs, aip, g1, g2, g3⟩ := ar.dt k cs af
 have WN : A (ad k) := ar.up _ (by
  have : ¬ ad k < W.heap.size := g3;show W.heap.size ≤ ad k;omega)
 have a8 : ad k < w.heap.size := ar.lt af
 have XD : (oa s k cs).free A ad (ad k) := ⟨WN, fun j ds ae e => by
  obtain ⟨h1, h2⟩ := pq j ds ae;exact h1 (ar.inj j k _ _ h2 af e)⟩
 have ru : ∀ y ∈ cs, y.aV = true := cb.1 cA;refine ⟨ar.pC, ar.size, fun t av ax => ?_, fun j ds ae => ?_, fun j ek c1 c2 h1 h2 e => ar.inj j ek _ _ (pq j c1 h1).2 (pq ek c2 h2).2 e, ar.below, ar.up, ar.jS⟩
 ·simp only [oa] at ax;cases ay : s.tmps t with
  | none => rw [ay] at ax; cases ax
  | some o =>
   rw [ay] at ax;obtain ⟨v, h1, h2⟩ := ar.gE t o ay;refine ⟨v, h1, ?_⟩;have h3 : cR ((oa s k cs).free A ad) ad w o v := h2.map (fun b ab _ => ⟨jv b ab, rfl⟩) fun _ _ => rfl;unfold Bs at ax
   split at ax
   ·rename_i ek off rz;cases rz;cases ab : Nat.beq ek k with
    | true =>
     rw [ab] at ax;simp at ax;subst ax;have e : ek = k := gl ab;subst e;have hv : v = .pointer (some ⟨ad ek, off, none⟩) := h2;subst hv
     have qi : kv w ⟨ad ek, off, none⟩ (cs.drop off) (vs.drop off) := by
      refine ⟨a8, ⟨by simp [g2.1], fun i x u aa hu => ?_⟩, fun i u hu => ?_, fun y ai => ru y (mm ai)⟩
      ·rw [fC] at aa hu;have cZ := g2.2 _ x u aa hu;have Xi := ru x (c5 aa);cases x with
       | c y => exact cZ
       | own k o => cases Xi
       | p S => exact ⟨cZ.1, fun _ _ => trivial⟩
      ·rw [fC] at hu;have kj : (⟨ad ek, off, none⟩ : Addr).add i = ⟨ad ek, off + i, none⟩ := by unfold Addr.add; split <;> simp_all
       rw [kj];simp only [World.cell?, g1];simpa using hu
     refine ⟨⟨_, _, rfl, qi⟩, ?_⟩;rintro b ⟨a', e, ap⟩;cases e;rcases ap with rfl | ⟨i, y, u, ai, hu, fW⟩
     ·exact XD
     ·rw [fC] at ai;have Mw : off + i < vs.length := by rw [← g2.1]; exact (bF.1 ai).1
      have ff := qi.at_ i vs[off + i] (by rw [fC]; exact bQ Mw);rw [hu] at ff;cases ff;have js := g2.2 _ y _ ai (bQ Mw);cases y with
      | c y => cases fW
      | own k o => cases fW
      | p S => exact jv b (js.2 b fW)
    | false =>
     rw [ab] at ax;cases oh : sN s k ek with
     | false => rw [oh] at ax; simp at ax
     | true => rw [oh] at ax; simp at ax; subst ax; exact h3
   ·rename_i JV rz;cases rz;cases aj : ah.aV o with
    | false => rw [aj] at ax; simp at ax
    | true => rw [aj] at ax; simp at ax; subst ax; exact h3
   ·rename_i rz; cases rz
 ·obtain ⟨h1, h2⟩ := pq j ds ae;obtain ⟨us, afL, q1, q2, bE⟩ := ar.dt j ds h2;exact ⟨us, afL, q1, q2.map (fun b ab _ => ⟨jv b ab, rfl⟩) fun _ _ _ _ => rfl, bE⟩
section
variable {P : Program} {x y : Code} {Q : Exit → az → Prop} {s : az}
theorem EK (h : e2 P x Q s) : se P x Q s := fun ok W A ad a w ar => (h ok (eP.all W) A ad a w ar).top
theorem J8 (h : se P x (ra (fun s' => se P y Q s') Q) s) : se P (.seq x y) Q s := by
 intro ok W A ad a w ar;refine wp_seq (wp_mono (h ok W A ad a w ar) ?_);rintro e a' w' ⟨s', aY, du, cg, ak⟩;cases e <;> first | exact ak du W A aY a' w' cg | exact ⟨s', aY, du, cg, ak⟩
theorem J7 (k : Nat) (cs : List AC) (af : s.mem k = some cs) (cA : cs.all AC.aV = true) (h : se P x Q (oa s k cs)) : se P x Q s := by
 intro ok W A ad a w ar;exact h (Wn ok) W A ad a w (Wo af cA ar)
end
def SX (z n : Nat) (xs : List AC) : eQ where
 holds w v := (cl z n xs).holds w v ∧ ∃ A, v = .slice A n n
 kE := (cl z n xs).kE
 frame w w' v := by
  rintro ⟨h1, h2⟩ ap;have := (cl z n xs).frame w w' v h1 ap;exact ⟨⟨this.1, h2⟩, this.2⟩
 h7 w v b := by
  rintro ⟨h1, h2⟩ ap;exact (cl z n xs).h7 w v b h1 ap
 cell w v := by
  rintro ⟨h1, h2⟩;exact (cl z n xs).cell w v h1
theorem kL {n : Nat} (h : n ≤ 1000000) : n ≤ maxLen := h8 h (by decide)
abbrev DO (z n : Nat) (xs : List AC) : ah := .w (.one (.p (SX z n xs)))
section
variable {P : Program} {U : Nat → Prop} {ad : Nat → Nat} {W bb : World}
theorem Dx {z n l h c c' : Nat} {xs : List AC} {A : Option Addr} (aa : cR U ad W (cz z n xs) (.slice A n c)) (h1 : l ≤ h) (h2 : h ≤ n) (h3 : h ≤ c') : cR U ad W (cz z (h - l) ((xs.drop (l * z)).take ((h - l) * z))) (sliced A l h c' z) := by
 obtain ⟨⟨dH, gr, aF, aj, hl, dR⟩, c8⟩ := aa;cases aF;have hm : (h - l) * z ≤ n * z - l * z := by rw [← Nat.sub_mul]; exact j1 _ (by omega)
 refine ⟨⟨if c' = l then A else A.map (·.add (l * z)), c' - l, rfl, by omega, by rw [dS, hN, hl]; exact oJ hm, fun au => ?_⟩, ?_⟩
 ·obtain ⟨a, vs, rfl, ej⟩ := dR (by omega);have bX : ¬ c' = l := by omega
  rw [if_neg bX];exact ⟨a.add (l * z), _, rfl, ej.sub (l * z) ((h - l) * z)⟩
 ·rintro b ⟨c2, a', q, au, ap⟩;obtain ⟨a, vs, rfl, ej⟩ := dR (by omega);have bX : ¬ c' = l := by omega
  unfold sliced at q;rw [if_neg bX] at q;simp at q;obtain ⟨rfl, _⟩ := q;exact c8 b ⟨c, a, rfl, by omega, mG.sub (off := l * z) (n := (h - l) * z) ap⟩
theorem LP {z n c : Nat} {xs : List AC} {vs : List Value} {cur : Array Value} {e : TypeId} (hl : bH U id W xs vs) (cA : ∀ y ∈ xs, y.aV = true) (hlen : xs.length = n * z) (eI : n ≤ c) (hold : ∀ b, b < W.heap.size → bb.heap[b]? = W.heap[b]?) (pr : bb.heap[W.heap.size]? = some (.cells cur e (0, 0))) (Xr : cur.toList.take (n * z) = vs) : cR (fun b => U b ∨ W.heap.size ≤ b) ad bb (cz z n xs) (.slice (some ⟨W.heap.size, 0, none⟩) n c) := by
 have a8 : W.heap.size < bb.heap.size := (jH.1 pr).1;have e0 : bH U id bb xs vs := hl.map (fun b ab a8 => ⟨ab, hold b a8⟩) (fun _ _ _ _ => rfl)
 have gf : ∀ (j : Nat) v, vs[j]? = some v → bb.cell? ((⟨W.heap.size, 0, none⟩ : Addr).add j) = some v := fun j v hv => by
  have kj : (⟨W.heap.size, 0, none⟩ : Addr).add j = ⟨W.heap.size, j, none⟩ := by unfold Addr.add; split <;> simp_all
  rw [kj, cell_of_row bb _ j cur e (0, 0) pr];rw [← Xr, List.getElem?_take] at hv
  split at hv
  ·simpa using hv
  ·cases hv
 have qi : kv bb ⟨W.heap.size, 0, none⟩ xs vs := ⟨a8, e0.map (fun b _ _ => ⟨trivial, rfl⟩) (fun _ _ _ _ => rfl), gf, cA⟩;refine ⟨⟨some ⟨W.heap.size, 0, none⟩, c, rfl, eI, hlen, fun au => ⟨_, vs, rfl, qi⟩⟩, ?_⟩;rintro b ⟨c', a', q, au, ap⟩;cases q;rcases ap with rfl | ⟨j, y, v, ai, hv, fW⟩
 ·exact .inr (dl _)
 ·have ae : j < vs.length := by rw [← hl.1]; exact (bF.1 ai).1
  have h2 := gf j _ (bQ ae);rw [hv] at h2;cases h2;have h3 := e0.2 j y _ ai (bQ ae);cases y with
  | c u => cases fW
  | own k o => cases fW
  | p S => exact .inl (h3.2 b fW)
theorem aem {xs : List AC} {vs : List Value} (h : bH U ad W xs vs) (aj : ∀ y ∈ xs, y.aV = true) : bH U id W xs vs :=
 ⟨h.1, fun i x v aa hv => (h.2 i x v aa hv).map (fun b ab _ => ⟨ab, rfl⟩) fun j ae => absurd ae (AC.dd (aj x (c5 aa)) j)⟩
theorem ael {xs aO : List AC} {us vs : List Value} (h1 : bH U ad W xs us) (h2 : bH U ad W aO vs) : bH U ad W (xs ++ aO) (us ++ vs) := by
 refine ⟨by rw [cx, cx, h1.1, h2.1], fun i x v aa hv => ?_⟩;rcases hM i xs.length with a8 | kl
 ·rw [fK a8] at aa;rw [fK (by rw [← h1.1]; exact a8)] at hv;exact h1.2 i x v aa hv
 ·rw [gm kl] at aa;rw [gm (by rw [← h1.1]; exact kl), ← h1.1] at hv;exact h2.2 _ x v aa hv
theorem xa {z n : Nat} {xs : List AC} {v : Value} (h : cR U ad W (cz z n xs) v) : ∃ A c vs, v = .slice A n c ∧ n ≤ c ∧ xs.length = n * z ∧ bH U id W xs vs ∧ (∀ y ∈ xs, y.aV = true) ∧ (∀ b, A = some b → ∀ (j : Nat) u, vs[j]? = some u → W.cell? (b.add j) = some u) ∧ (A = none → n = 0) := by
 rcases vb n with rfl | au
 ·obtain ⟨⟨A, c, e, aj, hl, dR⟩, c8⟩ := h;have : xs = [] := j3 (by rw [hl]; simp);subst this;exact ⟨A, c, [], e, aj, hl, ⟨rfl, fun i x v aa => by simp at aa⟩, fun y ai => (by cases ai), fun b _ j u hu => by simp at hu, fun _ => rfl⟩
 ·have aA := h;obtain ⟨b, c, vs, e, aj, hl, gf, pu⟩ := cl.EQ h au;obtain ⟨⟨A, c', bm, _, _, dR⟩, _⟩ := aA;rw [e] at bm;cases bm;obtain ⟨a, us, ih, ej⟩ := dR au;exact ⟨some b, c, vs, e, aj, hl, aem pu ej.o9, ej.o9, fun bK e => by cases e; exact gf, fun e => by cases e⟩
theorem aeu {tt e z n m bytes ty : Nat} {xs aO : List AC} {x y : Value} (ax : vc P tt e z bytes = true) (aa : cR U ad W (DO z n xs) x) (ai : cR U ad W (cz z m aO) y) (h1 : n + m ≤ maxLen) (h2 : (n + m) * bytes ≤ 140737488355328) :
  ∃ v bb, (Builtin.append_ #[tt, tt] ty #[x, y]).run P W = .ok v bb ∧ cR (fun b => U b ∨ W.heap.size ≤ b) ad bb (cz z (n + m) (xs ++ aO)) v ∧ Below W.heap.size W bb := by
 obtain ⟨ev, IP, hu, eT, aI, hf, kG, ot, bB⟩ := qP ax;have kq : cR U ad W (cz z n xs) x := ⟨aa.1.1, aa.2⟩;obtain ⟨bG, K7⟩ := aa.1.2;obtain ⟨A, c, us, ex, eI, kI, ML, BJ, Xd, jw⟩ := xa kq;rw [K7] at ex;cases ex;obtain ⟨DX, KY, vs, rfl, ahz, yx, Gy, Mj, Mg, X5⟩ := xa ai;subst K7;have FC : n + m ≤ 9223372036854775807 := by simp only [maxLen] at h1; omega
 rcases vb m with rfl | B3
 ·have YO : aO = [] := j3 (by rw [yx]; simp);subst YO;refine ⟨.slice bG n n, W, ?_, ?_, Below.refl _ _⟩
  ·cases bG <;> cases DX <;> simp [Builtin.append_, run_underlying hu, sizeOf, typeInfo, eT, Builtin.lenOf, Builtin.firstCells, storeCells, loadCells, loadCellsFrom]
  ·rw [Nat.add_zero, mn];exact cR.map kq (fun b ab _ => ⟨.inl ab, rfl⟩) fun _ _ => rfl
 ·obtain ⟨a, rfl⟩ : ∃ a, DX = some a := by
   cases DX with
   | none => have := X5 rfl; omega
   | some a => exact ⟨a, rfl⟩
  have ma : vs.length = m * ev.size := by rw [hf, ← Gy.1]; exact yx
  have cA : ∀ q ∈ xs ++ aO, q.aV = true := fun q ak => by
   rcases iU.1 ak with h | h
   ·exact BJ q h
   ·exact Mj q h
  have hlen : (xs ++ aO).length = (n + m) * z := by rw [cx, kI, yx, j0]
  cases bG with
  | none =>
   have yB : n = 0 := jw rfl;subst yB;have Ca : xs = [] := j3 (by rw [kI]; simp);subst Ca;have al := run_append_nil (P := P) W tt ty e ev IP hu eT aI a m KY vs ma (Mg a rfl) B3 (by omega) (by rw [kG]; simp only [jj] at h2; omega);refine ⟨_, _, al, ?_, (Below.drew (Below.refl _ W)).alloc (dl _) _⟩;have XY : aO.length = (0 + m) * z := by rw [yx, jj]
   rw [List.nil_append];have cW : 0 + m = m := jj m;rw [cW];refine LP (vs := vs) (e := e) Gy Mj yx (grownCap_ge _ _ _ _) (fun b ab => by first | exact heap_alloc_old W.drew _ b ab | exact heap_alloc_old W.drew _ ab) (heap_alloc_new W.drew _) ?_;rw [Array.toList_append, List.toList_toArray, zz (by rw [ma, hf]; exact dl _), hq (by rw [ma, hf]; exact dl _)]
  | some b =>
   have wD : us.length = n * ev.size := by rw [hf, ← ML.1]; exact kI
   have al := run_append_grow (P := P) W tt ty e ev IP hu eT aI b n n us wD (Xd b rfl) a m KY vs ma (Mg a rfl) (by omega) (by omega) (growslice_fits (by omega) (by rw [kG]; exact h2));refine ⟨_, _, al, ?_, (Below.drew (Below.refl _ W)).alloc (dl _) _⟩;refine LP (vs := us ++ vs) (e := e) (ael ML Gy) cA hlen (grownCap_ge _ _ _ _) (fun b ab => by first | exact heap_alloc_old W.drew _ b ab | exact heap_alloc_old W.drew _ ab) (heap_alloc_new W.drew _) ?_;have mM : (us ++ vs).length = (n + m) * z := by rw [cx, wD, ma, hf, j0]
   rw [Array.toList_append, Array.toList_append, List.toList_toArray, List.toList_toArray, zz (by rw [mM]; exact dl _), hq (by rw [mM]; exact dl _)]
end
section
variable {P : Program} {s : az} {ops : Array Oper} {K : az → Prop} {rest : List Oper} {ty : Nat} {pos : String} {after : Array Edge} {guard : Option (Nat × Bool)} {d : Nat}
theorem Ty {tt e z n m k bytes : Nat} {x y : Operand} {xs aO zs : List AC} [T : l0 P tt e z bytes] (hw : want ops ⟨some d, .call ⟨.builtin .append, #[x, y], #[tt, tt]⟩, ty, pos, after, guard⟩ s = some true) (aa : s.look x = some (DO z n xs)) (ai : s.look y = some (cz z m aO)) (h1 : n + m ≤ maxLen) (h2 : (n + m) * bytes ≤ 140737488355328) (af : n + m = k) (aI : xs ++ aO = zs) (hd : Nat.blt d s.n = true) (h : a7 P ops K rest (s.put (some d) (cz z k zs))) : a7 P ops K (⟨some d, .call ⟨.builtin .append, #[x, y], #[tt, tt]⟩, ty, pos, after, guard⟩ :: rest) s := by
 subst af aI;refine ED (av := cz z (n + m) (xs ++ aO)) hw ⟨fun q ak => ?_, fun j ae => lf _ j ae, fun U ad W env he => ?_⟩ hd h
 ·simp [Op.operands, Call.operands] at ak;rcases ak with rfl | rfl
  ·exact ⟨_, aa⟩
  ·exact ⟨_, ai⟩
 ·obtain ⟨v, bb, al, h3, aE⟩ := aeu (ty := ty) T.h (he x (by simp [Op.operands, Call.operands]) _ aa) (he y (by simp [Op.operands, Call.operands]) _ ai) h1 h2;exact ⟨v, bb, by simp only [execOp, resolve, invoke, builtin, Sem.run_bind, Sem.run_pure, Result.andThen_ok, List.map_toArray, kQ, List.map_nil, al], h3, aE⟩
theorem Ub {t sz e bytes : Nat} [S : hQ P t sz] [T : l0 P t e sz bytes] (hw : want ops ⟨some d, .buildSlice t 0 #[], ty, pos, after, guard⟩ s = some true) (hd : Nat.blt d s.n = true) (h : a7 P ops K rest (s.put (some d) (DO sz 0 []))) : a7 P ops K (⟨some d, .buildSlice t 0 #[], ty, pos, after, guard⟩ :: rest) s := by
 refine ED (av := DO sz 0 []) hw ⟨fun q ak => ?_, fun j ae => lf _ j ae, fun U ad W env he => ?_⟩ hd h
 ·simp [Op.operands] at ak
 ·obtain ⟨ev, IP, hu, eT, aI, hf, kG, ot, bB⟩ := qP T.h;refine ⟨.slice (some ⟨W.heap.size, 0, none⟩) 0 0, W.alloc (.cells #[] e), ?_, ⟨⟨⟨_, 0, rfl, dl _, by simp, fun h => absurd h (Nat.lt_irrefl _)⟩, _, rfl⟩, fun b ⟨c, a, q, au, _⟩ => absurd au (Nat.lt_irrefl _)⟩, (Below.refl _ _).alloc (dl _) _⟩;simp [execOp, Instr.buildSlice, Sem.run_bind, run_underlying hu, ht eT, Instr.fill, newRow, newObj, Sem.run, Array.range_zero']
theorem Uk {tt z n m : Nat} {x y : Operand} {l : Int} {xs aO : List AC} [S : hQ P tt z] (hw : want ops ⟨some d, .slice tt x (some y) none none, ty, pos, after, guard⟩ s = some true) (aa : s.look x = some (cz z n xs)) (ai : s.look y = some (aB l)) (aA : 0 ≤ l) (h1 : l ≤ n) (hm : n - l.toNat = m) (he : (xs.drop (l.toNat * z)).take (m * z) = aO) (hd : Nat.blt d s.n = true) (h : a7 P ops K rest (s.put (some d) (cz z m aO))) : a7 P ops K (⟨some d, .slice tt x (some y) none none, ty, pos, after, guard⟩ :: rest) s := by
 subst hm he;refine fF (av := cz z (n - l.toNat) ((xs.drop (l.toNat * z)).take ((n - l.toNat) * z))) hw ⟨fun _ _ h => (by cases h), fun q ak => ?_, fun U ad W env he => ?_, fun j ae => absurd ae (lf _ j)⟩ hd h
 ·simp [Op.operands] at ak;rcases ak with rfl | rfl
  ·exact ⟨_, aa⟩
  ·exact ⟨_, ai⟩
 ·have hv := he x (by simp [Op.operands]) _ aa;obtain ⟨A, c, us, ex, eI, _⟩ := xa hv;rw [ex] at hv;have kg : env y = .int .i64 l := (he y (by simp [Op.operands]) _ ai).1;obtain ⟨bm, fi, hu, cP, hs⟩ := mu S.h;have eU : P.underlying tt = some (.slice (P.elem tt)) := by rw [kf hu]; exact hu
  refine ⟨_, ?_, Dx (c' := c) hv (by omega) (by omega) (by omega)⟩;simp only [execOp, ex, gC, r4, kg, Sem.run_bind, run_sliceAt_slice W tt _ _ _ _ eU, run_slice_l W tt A n c eU .i64 l aA h1, kf hu, ht cP, Result.andThen_ok, hs, Sem.run_pure]
theorem Ul {tt z n m : Nat} {x y u : Operand} {l r : Int} {xs aO : List AC} [S : hQ P tt z] (hw : want ops ⟨some d, .slice tt x (some y) (some u) none, ty, pos, after, guard⟩ s = some true) (aa : s.look x = some (cz z n xs)) (ai : s.look y = some (aB l)) (hu : s.look u = some (aB r)) (aA : 0 ≤ l) (h1 : l ≤ r) (h2 : r ≤ n) (hm : r.toNat - l.toNat = m) (he : (xs.drop (l.toNat * z)).take (m * z) = aO) (hd : Nat.blt d s.n = true) (h : a7 P ops K rest (s.put (some d) (cz z m aO))) : a7 P ops K (⟨some d, .slice tt x (some y) (some u) none, ty, pos, after, guard⟩ :: rest) s := by
 subst hm he;refine fF (av := cz z (r.toNat - l.toNat) ((xs.drop (l.toNat * z)).take ((r.toNat - l.toNat) * z))) hw ⟨fun _ _ h => (by cases h), fun q ak => ?_, fun U ad W env he => ?_, fun j ae => absurd ae (lf _ j)⟩ hd h
 ·simp [Op.operands] at ak;rcases ak with rfl | rfl | rfl
  ·exact ⟨_, aa⟩
  ·exact ⟨_, ai⟩
  ·exact ⟨_, hu⟩
 ·have hv := he x (by simp [Op.operands]) _ aa;obtain ⟨A, c, us, ex, eI, _⟩ := xa hv;rw [ex] at hv;have kg : env y = .int .i64 l := (he y (by simp [Op.operands]) _ ai).1;have rp : env u = .int .i64 r := (he u (by simp [Op.operands]) _ hu).1;obtain ⟨bm, fi, hu, cP, hs⟩ := mu S.h;have eU : P.underlying tt = some (.slice (P.elem tt)) := by rw [kf hu]; exact hu
  refine ⟨_, ?_, Dx (c' := c) hv (by omega) (by omega) (by omega)⟩;simp only [execOp, ex, gC, r4, kg, rp, Sem.run_bind, run_sliceAt_slice W tt _ _ _ _ eU, run_slice_lh W tt A n c eU .i64 .i64 l r aA h1 (by omega), kf hu, ht cP, Result.andThen_ok, hs, Sem.run_pure]
theorem EF {tt z n m : Nat} {x y u : Operand} {r k : Int} {xs aO : List AC} [S : hQ P tt z] (hw : want ops ⟨some d, .slice tt x none (some y) (some u), ty, pos, after, guard⟩ s = some true) (aa : s.look x = some (cz z n xs)) (ai : s.look y = some (aB r)) (hu : s.look u = some (aB k)) (aA : 0 ≤ r) (h1 : r ≤ k) (h2 : k ≤ n) (hm : r.toNat - 0 = m) (he : (xs.drop (0 * z)).take (m * z) = aO) (hd : Nat.blt d s.n = true) (h : a7 P ops K rest (s.put (some d) (cz z m aO))) : a7 P ops K (⟨some d, .slice tt x none (some y) (some u), ty, pos, after, guard⟩ :: rest) s := by
 subst hm he;refine fF (av := cz z (r.toNat - 0) ((xs.drop (0 * z)).take ((r.toNat - 0) * z))) hw ⟨fun _ _ h => (by cases h), fun q ak => ?_, fun U ad W env he => ?_, fun j ae => absurd ae (lf _ j)⟩ hd h
 ·simp [Op.operands] at ak;rcases ak with rfl | rfl | rfl
  ·exact ⟨_, aa⟩
  ·exact ⟨_, ai⟩
  ·exact ⟨_, hu⟩
 ·have hv := he x (by simp [Op.operands]) _ aa;obtain ⟨A, c, us, ex, eI, _⟩ := xa hv;rw [ex] at hv;have kg : env y = .int .i64 r := (he y (by simp [Op.operands]) _ ai).1;have rp : env u = .int .i64 k := (he u (by simp [Op.operands]) _ hu).1;obtain ⟨bm, fi, hu, cP, hs⟩ := mu S.h;have eU : P.underlying tt = some (.slice (P.elem tt)) := by rw [kf hu]; exact hu
  refine ⟨_, ?_, Dx (c' := k.toNat) hv (by omega) (by omega) (by omega)⟩;simp only [execOp, ex, gC, r4, kg, rp, Sem.run_bind, run_sliceAt_slice W tt _ _ _ _ eU, run_slice_hm W tt A n c eU .i64 .i64 r k aA h1 (by omega), kf hu, ht cP, Result.andThen_ok, hs, Sem.run_pure]
theorem EG {tt z n m : Nat} {x y u q : Operand} {l r k : Int} {xs aO : List AC} [S : hQ P tt z] (hw : want ops ⟨some d, .slice tt x (some y) (some u) (some q), ty, pos, after, guard⟩ s = some true) (aa : s.look x = some (cz z n xs)) (ai : s.look y = some (aB l)) (hu : s.look u = some (aB r)) (ak : s.look q = some (aB k)) (aA : 0 ≤ l) (h1 : l ≤ r) (h2 : r ≤ k) (h3 : k ≤ n) (hm : r.toNat - l.toNat = m) (he : (xs.drop (l.toNat * z)).take (m * z) = aO) (hd : Nat.blt d s.n = true) (h : a7 P ops K rest (s.put (some d) (cz z m aO))) : a7 P ops K (⟨some d, .slice tt x (some y) (some u) (some q), ty, pos, after, guard⟩ :: rest) s := by
 subst hm he;refine fF (av := cz z (r.toNat - l.toNat) ((xs.drop (l.toNat * z)).take ((r.toNat - l.toNat) * z))) hw ⟨fun _ _ h => (by cases h), fun q ak => ?_, fun U ad W env he => ?_, fun j ae => absurd ae (lf _ j)⟩ hd h
 ·simp [Op.operands] at ak;rcases ak with rfl | rfl | rfl | rfl
  ·exact ⟨_, aa⟩
  ·exact ⟨_, ai⟩
  ·exact ⟨_, hu⟩
  ·exact ⟨_, ak⟩
 ·have hv := he x (by simp [Op.operands]) _ aa;obtain ⟨A, c, us, ex, eI, _⟩ := xa hv;rw [ex] at hv;have kg : env y = .int .i64 l := (he y (by simp [Op.operands]) _ ai).1;have rp : env u = .int .i64 r := (he u (by simp [Op.operands]) _ hu).1;have eq : env q = .int .i64 k := (he q (by simp [Op.operands]) _ ak).1;obtain ⟨bm, fi, hu, cP, hs⟩ := mu S.h;have eU : P.underlying tt = some (.slice (P.elem tt)) := by rw [kf hu]; exact hu
  refine ⟨_, ?_, Dx (c' := k.toNat) hv (by omega) (by omega) (by omega)⟩;simp only [execOp, ex, gC, r4, kg, rp, eq, Sem.run_bind, run_sliceAt_slice W tt _ _ _ _ eU, run_slice_lhm W tt A n c eU .i64 .i64 .i64 l r k aA h1 h2 (by omega), kf hu, ht cP, Result.andThen_ok, hs, Sem.run_pure]
end
def bL : List (Int × Int) → List AC
 | [] => []
 | p :: l => .c (.int .i64 p.1) :: .c (.int .i64 p.2) :: bL l
abbrev gT (l : List (Int × Int)) : ah := cz 2 l.length (bL l)
theorem Nk : ∀ (l : List (Int × Int)) (i : Nat) (p : Int × Int), l[i]? = some p → ((bL l).drop (i * 2)).take 2 = [.c (.int .i64 p.1), .c (.int .i64 p.2)]
 | [], i, p, h => by simp at h
 | q :: l, 0, p, h => by simp at h; subst h; simp [bL]
 | q :: l, i + 1, p, h => by
  have e : (i + 1) * 2 = i * 2 + 1 + 1 := by omega
  rw [e];simp only [bL, List.drop_succ_cons];exact Nk l i p (by simpa using h)
theorem qt {l : List (Int × Int)} {j : Int} {i : Nat} {x y : Int} (ae : j = i) (h : l[i]? = some (x, y)) : ((bL l).drop (j.toNat * 2)).take 2 = [.c (.int .i64 x), .c (.int .i64 y)] := by
 subst ae;exact Nk l i (x, y) h
theorem nI : ∀ (l : List (Int × Int)), (bL l).length = l.length * 2
 | [] => rfl
 | p :: l => by simp only [bL, jZ, nI l]; omega
theorem rO : ∀ (l m : List (Int × Int)), bL (l ++ m) = bL l ++ bL m
 | [], _ => rfl
 | p :: l, m => by simp only [List.cons_append, bL, rO l m]
theorem uR : ∀ (l : List (Int × Int)), (bL l).all AC.aV = true
 | [] => rfl
 | p :: l => by simp only [bL, jI, uR l]; rfl
def cu (l : List Int) : List AC := l.map fun x => .c (.int .i64 x)
abbrev mw (l : List Int) : ah := cz 1 l.length (cu l)
theorem Cd {l : List Int} {j : Int} {i : Nat} {x : Int} (ae : j = i) (h : l[i]? = some x) : ((cu l).drop (j.toNat * 1)).take 1 = [.c (.int .i64 x)] := by
 subst ae;have hi := (bF.1 h).1;rw [ks, Nat.mul_one, ml (by simpa [cu] using hi)];have : l[i] = x := (bF.1 h).2;simp [cu, this]
theorem Cc (l m : List Int) : cu (l ++ m) = cu l ++ cu m := by simp [cu]
instance ahS : l0 Tryz.prog 32 3 1 8 := ⟨by kernel_rfl⟩
def xP (x y z w : Int) (fx fy : Bool) : Bool := if x < z then !fx else if z < x then fx else if y < w then !fy else decide (w < y) && fy
end Go.Proofs.YtbcecodakfejaaaGreat
namespace Go.Proofs.YtbcecodakfejaaaGreat
abbrev an := Int × Int
def dy (fx fy : Bool) (p q : an) : Bool := xP p.1 p.2 q.1 q.2 fx fy
theorem xN {fx fy : Bool} {p q : an} : dy fx fy p q = true ↔ (if fx then q.1 < p.1 else p.1 < q.1) ∨ (p.1 = q.1 ∧ if fy then q.2 < p.2 else p.2 < q.2) := by
 unfold dy xP
 by_cases h1 : p.1 < q.1
 ·cases fx <;> simp [h1] <;> omega
 ·by_cases h2 : q.1 < p.1
  ·cases fx <;> simp [h1, h2] <;> omega
  ·have e : p.1 = q.1 := by omega
   by_cases h3 : p.2 < q.2
   ·cases fx <;> cases fy <;> simp [h1, h2, h3, e] <;> omega
   ·cases fx <;> cases fy <;> simp [h1, h2, h3, e] <;> omega
theorem xO {fx fy : Bool} {p q r : an} (h1 : dy fx fy p q = true) (h2 : dy fx fy q r = true) : dy fx fy p r = true := by
 rw [xN] at *;cases fx <;> cases fy <;> simp at * <;> omega
theorem Jz {fx fy : Bool} {p : an} : dy fx fy p p = false := by
 cases h : dy fx fy p p with
 | false => rfl
 | true => rw [xN] at h; cases fx <;> cases fy <;> simp at h
theorem Jy {fx fy : Bool} {p q : an} (h1 : dy fx fy p q = true) : dy fx fy q p = false := by
 cases h : dy fx fy q p with
 | false => rfl
 | true => have := xO h1 h; rw [Jz] at this; cases this
theorem Ez {fx fy : Bool} {p q : an} (h : p ≠ q) : dy fx fy p q = true ∨ dy fx fy q p = true := by
 rw [xN, xN]
 have : p.1 ≠ q.1 ∨ p.2 ≠ q.2 := by
  by_cases h1 : p.1 = q.1
  ·exact .inr fun h2 => h (Prod.ext h1 h2)
  ·exact .inl h1
 cases fx <;> cases fy <;> simp <;> omega
def jN (fx fy : Bool) (l : List an) : Prop := l.Pairwise fun p q => dy fx fy p q = true
theorem JT {fx fy : Bool} : ∀ {l m : List an}, jN fx fy l → jN fx fy m → l.Perm m → l = m
 | [], m, _, _, hp => by have := hp.nil_eq; exact this
 | p :: l, [], _, _, hp => by have := hp.length_eq; simp at this
 | p :: l, q :: m, hl, hm, hp => by
  have h1 := iV.1 hl;have h2 := iV.1 hm
  have e : p = q := by
   rcases fQ.1 (hp.mem_iff.1 (kr ..) : p ∈ q :: m) with h | h
   ·exact h
   ·rcases fQ.1 (hp.mem_iff.2 (kr ..) : q ∈ p :: l) with aJ | aJ
    ·exact aJ.symm
    ·have a := h1.1 q aJ;have b := h2.1 p h;rw [Jy a] at b; cases b
  subst e;rw [JT h1.2 h2.2 (List.perm_cons p |>.1 hp)]
def lF (fx fy : Bool) (q : an) : List an → List an
 | [] => [q]
 | p :: l => if dy fx fy q p then q :: p :: l else p :: lF fx fy q l
theorem y3 (fx fy : Bool) (q : an) : ∀ l, (lF fx fy q l).Perm (q :: l)
 | [] => .refl _
 | p :: l => by
  unfold lF
  split
  ·exact .refl _
  ·exact ((y3 fx fy q l).cons p).trans (.swap q p l)
theorem Nf {fx fy : Bool} {q : an} : ∀ {l : List an}, jN fx fy l → q ∉ l → jN fx fy (lF fx fy q l)
 | [], _, _ => by unfold lF jN; simp
 | p :: l, h, au => by
  have aj := iV.1 h;unfold lF
  split
  ·rename_i ak;refine iV.2 ⟨fun r al => ?_, h⟩;rcases fQ.1 al with rfl | al
   ·exact ak
   ·exact xO ak (aj.1 r al)
  ·rename_i ak;refine iV.2 ⟨fun r al => ?_, Nf aj.2 fun aJ => au (nL _ aJ)⟩;rcases fQ.1 ((y3 fx fy q l).mem_iff.1 al) with rfl | al
   ·rcases Ez (fx := fx) (fy := fy) (p := p) (q := r) (fun e => au (by rw [e]; exact kr ..)) with aJ | aJ
    ·exact aJ
    ·exact absurd aJ ak
   ·exact aj.1 r al
def qS (fx fy : Bool) (f : an → Bool) (l : List an) : List an := l.foldl (fun out q => if f q then lF fx fy q out else out) []
theorem DA (fx fy : Bool) (f : an → Bool) (l : List an) : (qS fx fy f l).Perm (l.filter f) := by
 have key : ∀ (l out : List an), (l.foldl (fun out q => if f q then lF fx fy q out else out) out).Perm (out ++ l.filter f) := by
  intro l
  induction l with
  | nil => intro out; simp
  | cons q l bO =>
   intro out;rw [List.foldl_cons, List.filter_cons]
   by_cases ak : f q = true
   ·rw [if_pos ak, if_pos ak];refine (bO _).trans ?_;refine ((y3 fx fy q out).append_right _).trans ?_;exact List.perm_middle.symm
   ·rw [if_neg ak, if_neg ak]; exact bO out
 exact key l []
theorem afn (fx fy : Bool) (f : an → Bool) (l : List an) : (qS fx fy f l).length ≤ l.length := by
 rw [(DA fx fy f l).length_eq]; exact List.length_filter_le _ _
theorem afl (fx fy : Bool) (f : an → Bool) {l : List an} (au : l.Nodup) : jN fx fy (qS fx fy f l) := by
 have key : ∀ (l out : List an), jN fx fy out → (out ++ l).Nodup → jN fx fy (l.foldl (fun out q => if f q then lF fx fy q out else out) out) := by
  intro l
  induction l with
  | nil => intro out h _; exact h
  | cons q l bO =>
   intro out h hd;have hm := List.nodup_append.1 hd;have ak : q ∉ out := fun il => hm.2.2 q il q (kr ..) rfl;rw [List.foldl_cons]
   by_cases ap : f q = true
   ·rw [if_pos ap];refine bO _ (Nf h ak) ?_;have hp : (lF fx fy q out ++ l).Perm (out ++ q :: l) := ((y3 fx fy q out).append_right l).trans List.perm_middle.symm;exact hp.nodup_iff.2 hd
   ·rw [if_neg ap];refine bO _ h ?_;exact hd.sublist (List.Sublist.append_left (List.sublist_cons_self q l) out)
 exact key l [] List.Pairwise.nil (by simpa using au)
theorem Hq (lt : an → an → Bool) : ∀ a b, (eL lt a b).Perm (a ++ b) := by
 intro a b
 induction a, b using eL.induct lt with
 | case1 b => simp [eL]
 | case2 x a => simp [eL]
 | case3 x a y b h bO =>
  rw [eL, if_pos h];exact (bO.cons y).trans List.perm_middle.symm
 | case4 x a y b h bO =>
  rw [eL, if_neg h];exact bO.cons x
theorem aaC {fx fy : Bool} : ∀ a b, jN fx fy a → jN fx fy b → (a ++ b).Nodup → jN fx fy (eL (dy fx fy) a b) := by
 intro a b
 induction a, b using eL.induct (dy fx fy) with
 | case1 b => intro _ h _; simpa [eL] using h
 | case2 x a => intro h _ _; simpa [eL] using h
 | case3 x a y b h bO =>
  intro aH ab hd;rw [eL, if_pos h];have BI := iV.1 ab;have dW := iV.1 aH;have kH : (x :: a ++ b).Nodup := hd.sublist (List.Sublist.append_left (List.sublist_cons_self y b) (x :: a));refine iV.2 ⟨fun r al => ?_, bO aH BI.2 kH⟩;rcases iU.1 ((Hq _ _ _).mem_iff.1 al) with al | al
  ·rcases fQ.1 al with rfl | al
   ·exact h
   ·exact xO h (dW.1 r al)
  ·exact BI.1 r al
 | case4 x a y b h bO =>
  intro aH ab hd;rw [eL, if_neg h];have BI := iV.1 ab;have dW := iV.1 aH;have h0 : x ≠ y := fun e => (List.nodup_append.1 hd).2.2 x (kr ..) y (kr ..) e;have a8 : dy fx fy x y = true := (Ez h0).resolve_right h;have kH : (a ++ y :: b).Nodup := (List.nodup_cons.1 hd).2;refine iV.2 ⟨fun r al => ?_, bO dW.2 ab kH⟩;rcases iU.1 ((Hq _ _ _).mem_iff.1 al) with al | al
  ·exact dW.1 r al
  ·rcases fQ.1 al with rfl | al
   ·exact a8
   ·exact xO a8 (BI.1 r al)
theorem zV (lt : an → an → Bool) : ∀ (N : Nat) (l : List an), l.length ≤ N → (iz lt l).Perm l
 | N, l, h => by
  by_cases q : l.length < 2
  ·rw [iz, dif_pos q]
  ·match N with
   | 0 => omega
   | N + 1 =>
    rw [iz, dif_neg q];refine (Hq lt _ _).trans ?_;refine ((zV lt N _ (by simp; omega)).append (zV lt N _ (by simp; omega))).trans ?_;rw [jG]
theorem Iv {fx fy : Bool} : ∀ (N : Nat) (l : List an), l.length ≤ N → l.Nodup → jN fx fy (iz (dy fx fy) l)
 | N, l, h, hd => by
  by_cases q : l.length < 2
  ·rw [iz, dif_pos q]
   match l, q with
   | [], _ => exact .nil
   | [x], _ => unfold jN; simp
   | x :: y :: l, q => exact absurd q (by simp)
  ·match N with
   | 0 => omega
   | N + 1 =>
    rw [iz, dif_neg q];refine aaC _ _ (Iv N _ (by simp; omega) (hd.sublist (List.take_sublist _ _))) (Iv N _ (by simp; omega) (hd.sublist (List.drop_sublist _ _))) ?_;have hp := (zV (dy fx fy) N (l.take (l.length / 2)) (by simp; omega)).append (zV (dy fx fy) N (l.drop (l.length / 2)) (by simp; omega));rw [jG] at hp;exact hp.nodup_iff.2 hd
theorem aft {fx fy : Bool} {f : an → Bool} {l m : List an} (au : l.Nodup) (hp : m.Perm (l.filter f)) : iz (dy fx fy) m = qS fx fy f l :=
 JT (Iv _ m (dl _) (hp.nodup_iff.2 (au.sublist List.filter_sublist))) (afl fx fy f au) ((zV _ _ m (dl _)).trans (hp.trans (DA fx fy f l).symm))
end Go.Proofs.YtbcecodakfejaaaGreat
namespace Go.Proofs.YtbcecodakfejaaaGreat
open Go.RowKit
def z1 (P : Program) (qg : TypeId) (agg : Bool) (n : Nat) : Bool := match j8 P qg with
 | some (b, m) => Bool.beq b agg && Nat.beq m n
 | none => false
where Bool.beq : Bool → Bool → Bool
 | true, true => true
 | false, false => true
 | _, _ => false
def Fj (P : Program) (ty i off : Nat) (agg : Bool) (n : Nat) : Bool := match P.underlying ty with
 | some (.struct bc) => match bc[i]? with
  | some f => Nat.beq f.offset off && z1 P f.type agg n
  | none => false
 | _ => false
def GU (P : Program) (ty len : Nat) (agg : Bool) (n : Nat) : Bool := match P.underlying ty with
 | some (.array l e) => Nat.beq l len && z1 P e agg n && (match P.info? e with | some t => Nat.beq t.size n | none => false)
 | _ => false
class D1 (P : Program) (ty i : Nat) (off : outParam Nat) (agg : outParam Bool) (n : outParam Nat) : Prop where
 h : Fj P ty i off agg n = true
class I2 (P : Program) (ty : Nat) (len : outParam Nat) (agg : outParam Bool) (n : outParam Nat) : Prop where
 h : GU P ty len agg n = true
section
variable {P : Program}
theorem Rs {qg n : Nat} {agg : Bool} (h : z1 P qg agg n = true) : j8 P qg = some (agg, n) := by
 unfold z1 at h
 split at h
 ·rename_i b m ab;rw [dx] at h;have e := gl h.2;have aN : b = agg := by cases b <;> cases agg <;> simp [z1.Bool.beq] at h ⊢
  rw [ab, e, aN]
 ·cases h
theorem QT {qg n off : Nat} {cs : List Value} {v : Value} {W : World} (h : j8 P qg = some (false, n)) (hv : cs[off]? = some v) : (part qg cs.toArray off).run P W = .ok v W := by
 unfold j8 at h;cases hu : P.underlying qg with
 | none => rw [hu] at h; cases h
 | some D =>
  have h1 : (isAgg qg).run P W = .ok false W := by
   unfold isAgg;simp only [Sem.run_bind, run_underlying hu, Result.andThen_ok];cases hi : P.info? qg with
   | none => rw [hu, hi] at h; cases D <;> first | rfl | (cases h)
   | some ev => rw [hu, hi] at h; cases D <;> first | rfl | (cases h)
  unfold part;simp only [Sem.run_bind, h1, Result.andThen_ok, mZ, if_false, List.getElem?_toArray, hv, Sem.run_pure]
variable {s : az} {ops : Array Oper} {K : az → Prop} {rest : List Oper} {ty : Nat} {pos : String} {after : Array Edge} {guard : Option (Nat × Bool)} {d : Nat}
theorem Wl {cV i off n : Nat} {agg : Bool} (h : Fj P cV i off agg n = true) : ∃ bc f, P.underlying cV = some (.struct bc) ∧ bc[i]? = some f ∧ f.offset = off ∧ j8 P f.type = some (agg, n) := by
 unfold Fj at h
 split at h
 ·rename_i bc hu
  split at h
  ·rename_i f ap;rw [dx] at h;exact ⟨bc, f, hu, ap, gl h.1, Rs h.2⟩
  ·cases h
 ·cases h
theorem Y8 {cV len n : Nat} {agg : Bool} (h : GU P cV len agg n = true) : ∃ e t, P.underlying cV = some (.array len e) ∧ P.info? e = some t ∧ t.size = n ∧ j8 P e = some (agg, n) := by
 unfold GU at h
 split at h
 ·rename_i l e hu;simp only [dx] at h;obtain ⟨⟨h1, h2⟩, h3⟩ := h
  split at h3
  ·rename_i t ax;exact ⟨e, t, by rw [hu, gl h1], ax, gl h3, Rs h2⟩
  ·cases h3
 ·cases h
theorem TN {x : Operand} {cV i off n : Nat} {xs : List AC} {y : AC} [F : D1 P cV i off false n] (hw : want ops ⟨some d, .field cV x i, ty, pos, after, guard⟩ s = some true) (aa : s.look x = some (.w (.agg xs))) (aj : xs[off]? = some y) (hd : Nat.blt d s.n = true) (h : a7 P ops K rest (s.put (some d) (.w (.one y)))) : a7 P ops K (⟨some d, .field cV x i, ty, pos, after, guard⟩ :: rest) s := by
 refine fF hw ⟨fun _ _ h => (by cases h), fun z aI => ?_, fun U ad W env he => ?_, fun j ae => ⟨x, by simp [Op.operands], _, aa, ?_⟩⟩ hd h
 ·simp [Op.operands] at aI;subst aI;exact ⟨_, aa⟩
 ·obtain ⟨vs, aF, hl⟩ := he x (by simp [Op.operands]) _ aa;obtain ⟨bc, f, hu, ap, ay, cy⟩ := Wl F.h;have a8 : off < vs.length := by rw [← hl.1]; exact (bF.1 aj).1
  refine ⟨vs[off], ?_, hl.2 off y _ aj (bQ a8)⟩;simp only [execOp, Instr.field, aF, Sem.run_bind, run_underlying hu, Result.andThen_ok, ap, asAgg, Sem.run_pure, ay, QT cy (bQ a8)]
 ·obtain ⟨z, aI, y0⟩ := ae;simp [br.cells] at aI;subst aI;exact ⟨z, c5 aj, y0⟩
theorem TV {x y : Operand} {cV len n : Nat} {gx : IntKind} {i : Int} {xs : List AC} {z : AC} [A : I2 P cV len false n] (hw : want ops ⟨some d, .index cV x y, ty, pos, after, guard⟩ s = some true) (aa : s.look x = some (.w (.agg xs))) (ai : s.look y = some (aM (.int gx i))) (aA : 0 ≤ i) (h1 : i < len) (aj : xs[i.toNat * n]? = some z) (hd : Nat.blt d s.n = true) (h : a7 P ops K rest (s.put (some d) (.w (.one z)))) : a7 P ops K (⟨some d, .index cV x y, ty, pos, after, guard⟩ :: rest) s := by
 refine fF hw ⟨fun _ _ h => (by cases h), fun z aI => ?_, fun U ad W env he => ?_, fun j ae => ⟨x, by simp [Op.operands], _, aa, ?_⟩⟩ hd h
 ·simp [Op.operands] at aI;rcases aI with rfl | rfl
  ·exact ⟨_, aa⟩
  ·exact ⟨_, ai⟩
 ·obtain ⟨vs, aF, hl⟩ := he x (by simp [Op.operands]) _ aa;have hi : env y = .int gx i := (he y (by simp [Op.operands]) _ ai).1;obtain ⟨e, t, hu, ax, hs, cy⟩ := Y8 A.h;have a8 : i.toNat * n < vs.length := by rw [← hl.1]; exact (bF.1 aj).1
  refine ⟨vs[i.toNat * n], ?_, hl.2 _ z _ aj (bQ a8)⟩;simp only [execOp, Instr.index, aF, hi, asIntOf, Sem.run_bind, Sem.run_pure, Result.andThen_ok, run_underlying hu, if_pos (And.intro aA h1), ht ax, hs, QT cy (bQ a8)]
 ·obtain ⟨u, hu, YC⟩ := ae;simp [br.cells] at hu;subst hu;exact ⟨u, c5 aj, YC⟩
theorem TH {cV dK : Nat} {x y : Operand} {a b : Bool} (hw : want ops ⟨some d, .binOp .eql cV x y dK, ty, pos, after, guard⟩ s = some true) (aa : s.look x = some (bf a)) (ai : s.look y = some (bf b)) (hd : Nat.blt d s.n = true) (hu : P.underlying cV = some .bool) (h : a7 P ops K rest (s.put (some d) (bf (a == b)))) : a7 P ops K (⟨some d, .binOp .eql cV x y dK, ty, pos, after, guard⟩ :: rest) s :=
 ue hw aa ai rfl rfl (fun W => rfl) (fun W => run_eql_bool W cV a b hu) rfl hd h
end
theorem PP {P : Program} {f : FuncId} {args q8 : List ah} {r : ah} (h : aC P f args r) (jq : q8.all ah.aV = true) (hl : q8.length = args.length) (hle : ∀ (i : Nat) x y, q8[i]? = some x → args[i]? = some y → x.aQ y) : aC P f q8 r :=
 ⟨fun x aa => ah.dd (cb.1 jq x aa), h.bV, fun U W vs cI => h.call U W vs ⟨by rw [← hl]; exact cI.1, fun i y v ai hv => by
  have hi : i < q8.length := by rw [hl]; exact (bF.1 ai).1
  exact hle i _ y (bQ hi) ai U id W v (cI.2 i _ v (bQ hi) hv)⟩⟩
abbrev IG : ah := aM (.slice none 0 0)
theorem nil_le (z : Nat) : IG.aQ (cz z 0 []) := fun U ad W v h => by
 obtain ⟨rfl, _⟩ := h;exact ⟨⟨none, 0, rfl, dl _, by simp, fun h => absurd h (Nat.lt_irrefl _)⟩, fun b ⟨c, a, q, au, _⟩ => absurd au (Nat.lt_irrefl _)⟩
end Go.Proofs.YtbcecodakfejaaaGreat
