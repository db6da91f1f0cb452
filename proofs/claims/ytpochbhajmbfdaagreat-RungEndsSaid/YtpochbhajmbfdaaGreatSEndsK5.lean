/-
  My own texts, without what this claim does not need. My own text.
-/
import Derived.Laws.Slices
import Derived.Test.YtpochbhajmbfdaaGreatSEndsK4
set_option maxRecDepth 100000
set_option maxHeartbeats 64000000
set_option linter.unusedVariables false
set_option linter.unusedSimpArgs false
set_option linter.unusedSectionVars false
namespace Go.Proofs.YtpochbhajmbfdaaGreat
open Go.RowKit
abbrev Mem := Nat → Option (List AC)
def cb : Mem := fun _ => none
def ec (ad : Nat → Nat) (m : Mem) (R : aJ) (b : Nat) : Prop := (∃ k cs, m k = some cs ∧ ad k = b) ∨ ∃ i r, R i = some r ∧ r.own b
structure e1 (U : Nat → Prop) (ad : Nat → Nat) (W : World) (m : Mem) (R : aJ) : Prop where
  dx : ∀ k cs, m k = some cs → ∃ (vs : List Value) (ty : TypeId), W.heap[ad k]? = some (.cells vs.toArray ty (0, 0)) ∧ bV U ad W cs vs ∧ ¬ U (ad k)
  fG : ∀ k cs x j, m k = some cs → x ∈ cs → x.owns j → ∃ au, m j = some au
  inj : ∀ k k' cs au, m k = some cs → m k' = some au → ad k = ad k' → k = k'
  rows : ∀ i r, R i = some r → r.ok U ad W ∧ (∀ y ∈ r.aU, y.bb = true) ∧ ∀ g, r.own g → ¬ U g ∧ ∀ k cs, m k = some cs → ad k ≠ g
  apart : ∀ i j r q, R i = some r → R j = some q → i ≠ j → ∀ g, r.own g → ¬ q.own g
def G4 (ad : Nat → Nat) (W : World) (m : Mem) (R : aJ) : eX := ⟨W, fun b => b < W.heap.size ∧ ¬ ec ad m R b, fun _ h => h.1, fun _ => none, []⟩
def b0 {α : Type} (f g : Nat → Option α) : Nat → Option α := fun j => match f j with
  | some x => some x
  | none => g j
theorem jE {α : Type} {f g : Nat → Option α} {j : Nat} {x : α} (h : b0 f g j = some x) : f j = some x ∨ (f j = none ∧ g j = some x) := by
  unfold b0 at h;cases ar : f j with
  | some y => rw [ar] at h; exact .inl h
  | none => rw [ar] at h; exact .inr ⟨rfl, h⟩
theorem hn {α : Type} {f g : Nat → Option α} {j : Nat} {x : α} (h : f j = some x) : b0 f g j = some x := by unfold b0; rw [h]
theorem ho {α : Type} {f g : Nat → Option α} {j : Nat} (h : f j = none) : b0 f g j = g j := by unfold b0; rw [h]
structure c6 (P : Program) (f : FuncId) (args : List aj) (m0 : Mem) (R0 : aJ) (Post : aj → Mem → aJ → Prop) : Prop where
  call : ∀ (U : Nat → Prop) (ad : Nat → Nat) (W : World) (vs : List Value), e1 U ad W m0 R0 → (∀ x ∈ args, ∀ j, x.owns j → ∃ cs, m0 j = some cs) → jR U ad W args vs →
    Calls P f vs.toArray W fun e bo => ∃ v r aG az bg cC, e = .returned v ∧ Post r aG az ∧ e1 cC bg bo aG az ∧ c9 cC bg bo r v ∧ (∀ j, r.owns j → ∃ cs, aG j = some cs) ∧
      (∀ k cs, m0 k = some cs → bg k = ad k ∧ ∃ au, aG k = some au) ∧ (∀ i r, R0 i = some r → ∃ a7, az i = some a7) ∧
      (∀ b, cC b → U b ∨ W.heap.size ≤ b ∨ ec ad m0 R0 b) ∧ (∀ b, ec bg aG az b → ec ad m0 R0 b ∨ W.heap.size ≤ b) ∧ jN (G4 ad W m0 R0) bo
section
variable {P : Program} {B bt : eX} {A bS : Nat → Prop} {s : aC} {ad : Nat → Nat} {a : Act} {w : World} {o : Oper} {R : aJ} {Q : Exit → Act → World → Prop}
theorem oX.Ui {U : Nat → Prop} {v : Value} {fn : Fn} {cs : List AC} (h : gn U ad w (.p (oX fn cs)) v) : ∃ vs : List Value, v = .func fn #[] vs.toArray ∧ ∀ bg, bV U bg w cs vs := by
  obtain ⟨⟨vs, rfl, ao, ak⟩, ar⟩ := h;refine ⟨vs, rfl, fun bg => ⟨ao.1, fun i x u aa hu => ?_⟩⟩;have h := ao.2 i x u aa hu;cases x with
  | c y => exact h
  | own k o => exact absurd rfl (ak _ (dG aa) k)
  | p R => exact ⟨h.1, fun b ab => ar b ⟨vs, rfl, i, _, u, aa, hu, ab⟩⟩
theorem sK.run {f : FuncId} {args : List aj} (ak : sK P s.look o f args) (ax : Rel B A s ad a w) : ∃ us : List Value, jR (s.free A ad) ad w args us ∧ (execOp a.eval o).run P w = .ok (.enter f us.toArray) w := by
  obtain ⟨⟨c, g, ay, yP, a6⟩, yS⟩ := ak;rcases a6 with ⟨bs, aw, ob, wS⟩ | ⟨cs, aw, ob⟩
  · have kk : a.eval g = .func (.func f) bs.toArray #[] := (ax.look aw).1
    refine ⟨bs ++ c.args.toList.map a.eval, ?_, ?_⟩
    · refine ⟨by have := congrArg List.length ob; simpa using this.symm, fun i x v aa hv => ?_⟩
      have h1 : (bs.map (fun b => some (xj b)) ++ c.args.toList.map s.look)[i]? = some (some x) := by rw [ob, eG, aa]; rfl
      rcases iQ i bs.length with bj | lf
      · rw [fY (by simpa using bj), eG] at h1
        rw [fY bj] at hv;rw [hv] at h1;simp only [gL, hK] at h1;subst h1;exact Qi (ct.1 wS v (dG hv))
      · rw [gy (by simpa using lf), eG] at h1
        rw [gy lf, eG] at hv;simp only [mu] at h1;cases ah : c.args.toList[i - bs.length]? with
        | none => rw [ah] at hv; cases hv
        | some y =>
          rw [ah] at h1 hv;simp only [gL, hK] at h1 hv;subst hv;exact ax.look h1
    · have e : bs.toArray ++ c.args.map a.eval ++ #[] = (bs ++ c.args.toList.map a.eval).toArray := by
        rw [Array.append_empty];apply Array.ext';simp
      simp only [execOp, ay, resolve, yP, Deferred.ofValue, kk];simp only [Sem.run_bind, Sem.run_pure, Result.andThen_ok, invoke];rw [e];exact B2 yS
  · obtain ⟨vs, kk, cO⟩ := oX.Ui (ad := ad) (ax.look aw)
    refine ⟨c.args.toList.map a.eval ++ vs, ?_, ?_⟩
    · refine ⟨by have := congrArg List.length ob; have h2 := (cO ad).1; simp at this ⊢; omega, fun i x v aa hv => ?_⟩
      have h1 : (c.args.toList.map s.look ++ cs.map (fun x => some (.w (.one x))))[i]? = some (some x) := by rw [ob, eG, aa]; rfl
      rcases iQ i c.args.toList.length with bj | lf
      · rw [fY (by simpa using bj), eG] at h1
        rw [fY (by simpa using bj), eG] at hv;cases ah : c.args.toList[i]? with
        | none => rw [ah] at hv; cases hv
        | some y =>
          rw [ah] at h1 hv;simp only [gL, hK] at h1 hv;subst hv;exact ax.look h1
      · rw [gy (by simpa using lf), eG] at h1
        rw [gy (by simpa using lf)] at hv;simp only [mu] at h1 hv;cases ah : cs[i - c.args.toList.length]? with
        | none => rw [ah] at h1; cases h1
        | some y =>
          rw [ah] at h1;simp only [gL, hK] at h1;subst h1;exact (cO ad).2 _ y v ah hv
    · have e : (#[] : Array Value) ++ c.args.map a.eval ++ vs.toArray = (c.args.toList.map a.eval ++ vs).toArray := by
        apply Array.ext';simp
      simp only [execOp, ay, resolve, yP, Deferred.ofValue, kk];simp only [Sem.run_bind, Sem.run_pure, Result.andThen_ok, invoke];rw [e];exact B2 yS
theorem er.part (ax : er bt bS R s a w A ad) {m0 : Mem} {R0 : aJ} (hm : ∀ k cs, m0 k = some cs → s.mem k = some cs) (aq : bM R0 R) (fG : ∀ k cs x j, m0 k = some cs → x ∈ cs → x.owns j → ∃ au, m0 j = some au) : e1 (s.free A ad) ad w m0 R0 := by
  refine ⟨fun k cs af => ?_, fG, fun k k' cs au af eL e => ax.rel.inj k k' cs au (hm k cs af) (hm k' au eL) e, fun i r hi => ?_, fun i j r q hi ae => ax.apart i j r q (aq i r hi) (aq j q ae)⟩
  · obtain ⟨vs, ty, h1, h2, _⟩ := ax.rel.dx k cs (hm k cs af)
    exact ⟨vs, ty, h1, h2, fun h => h.2 k cs (hm k cs af) rfl⟩
  · obtain ⟨h1, h2, ap⟩ := ax.rows i r (aq i r hi)
    exact ⟨h1, h2, fun g aw => ⟨fun h => (ap g aw).1 h.1, fun k cs af => (ap g aw).2 k cs (hm k cs af)⟩⟩
theorem er.Yc (ax : er bt bS R s a w A ad) {m0 : Mem} {R0 : aJ} (hm : ∀ k cs, m0 k = some cs → s.mem k = some cs) (aq : bM R0 R) {b : Nat} (h : ec ad m0 R0 b) : b < w.heap.size := by
  rcases h with ⟨k, cs, af, rfl⟩ | ⟨i, r, hi, aw⟩
  · exact ax.rel.lt (hm k cs af)
  · exact (ax.rows i r (aq i r hi)).ok.lt aw
def aC.over (s : aC) (aG : Mem) : aC := { s with mem := b0 aG s.mem }
theorem er.called (ax : er bt bS R s a w A ad) (ok : s.cN) {m0 aG : Mem} {R0 az : aJ} {bg : Nat → Nat} {cC : Nat → Prop} {w' : World} (hm : ∀ k cs, m0 k = some cs → s.mem k = some cs) (aq : bM R0 R)
    (cK : e1 cC bg w' aG az) (bB : ∀ k cs, m0 k = some cs → bg k = ad k ∧ ∃ au, aG k = some au) (cf : ∀ i r, R0 i = some r → ∃ a7, az i = some a7) (f1 : ∀ k au, aG k = some au → (∃ cs, m0 k = some cs) ∨ s.mem k = none) (fn : ∀ k au, aG k = some au → s.mem k = none → k < s.n)
    (cG : ∀ b, cC b → s.free A ad b ∨ w.heap.size ≤ b ∨ ec ad m0 R0 b) (cH : ∀ b, ec bg aG az b → ec ad m0 R0 b ∨ w.heap.size ≤ b) (ab : jN (G4 ad w m0 R0) w') :
    er bt bS (b0 az R) (s.over aG) a w' (fun b => (s.free A ad b ∧ b < w.heap.size) ∨ cC b ∨ w'.heap.size ≤ b) (fun k => match aG k with | some _ => bg k | none => ad k) ∧
      (∀ b, cC b → (s.over aG).free (fun b => (s.free A ad b ∧ b < w.heap.size) ∨ cC b ∨ w'.heap.size ≤ b) (fun k => match aG k with | some _ => bg k | none => ad k) b) ∧ (s.over aG).cN := by
  have bj : ∀ b, ec ad m0 R0 b → b < w.heap.size := fun b h => ax.Yc hm aq h
  have ja : ∀ k, (∃ cs, s.mem k = some cs) → (match aG k with | some _ => bg k | none => ad k) = ad k := by
    rintro k ⟨cs, af⟩;cases fS : aG k with
    | none => rfl
    | some au =>
      rcases f1 k au fS with ⟨uK, aH⟩ | aH
      · exact (bB k uK aH).1
      · rw [aH] at af; cases af
  have YQ : ∀ k au, aG k = some au → (match aG k with | some _ => bg k | none => ad k) = bg k := fun k au h => by rw [h]
  have rS : ∀ b, s.free A ad b → ¬ ec ad m0 R0 b := by
    rintro b ar (⟨k, cs, af, rfl⟩ | ⟨i, r, hi, aw⟩)
    · exact ar.2 k cs (hm k cs af) rfl
    · exact ((ax.rows i r (aq i r hi)).own b aw).1 ar.1
  have uY : ∀ b, b < w.heap.size → ¬ ec ad m0 R0 b → w'.heap[b]? = w.heap[b]? := fun b h1 h2 => ab.block b ⟨h1, h2⟩;have bW : w.heap.size ≤ w'.heap.size := ab.size
  have CI : ∀ b, ec bg aG az b → b < w'.heap.size := by
    rintro b (⟨k, cs, af, rfl⟩ | ⟨i, r, hi, aw⟩)
    · obtain ⟨vs, ty, h1, _⟩ := cK.dx k cs af
      exact (kr.1 h1).1
    · exact (cK.rows i r hi).1.lt aw
 
  have zH : ∀ k cs, aG k = none → s.mem k = some cs → ¬ ec ad m0 R0 (ad k) := by
    rintro k cs aE af (⟨j, uK, ae, e⟩ | ⟨i, r, hi, aw⟩)
    · have bw : j = k := ax.rel.inj j k _ _ (hm j uK ae) af e
      subst bw;obtain ⟨_, au, h⟩ := bB j uK ae;rw [aE] at h; cases h
    · exact ((ax.rows i r (aq i r hi)).own _ aw).2 k cs af rfl
  have Ad : ∀ i r, az i = none → R i = some r → ∀ g, r.own g → ¬ ec ad m0 R0 g := by
    rintro i r aE hi g aw (⟨j, uK, ae, e⟩ | ⟨ft, a7, dd, ew⟩)
    · exact ((ax.rows i r hi).own _ aw).2 j uK (hm j uK ae) e
    · by_cases e : i = ft
      · subst e
        obtain ⟨q, h⟩ := cf i a7 dd;rw [aE] at h; cases h
      · exact ax.apart i ft r a7 hi (aq ft a7 dd) e g aw ew
  have xx : ∀ i r, R i = some r → ∀ g, r.own g → g < w.heap.size := fun i r hi g aw => (ax.rows i r hi).ok.lt aw
  have Gv : ∀ b, cC b → ¬ ec bg aG az b := by
    rintro b hu (⟨k, cs, af, rfl⟩ | ⟨i, r, hi, aw⟩)
    · obtain ⟨_, _, _, _, h⟩ := cK.dx k cs af; exact h hu
    · exact ((cK.rows i r hi).2.2 b aw).1 hu
  have F6 : ∀ b, s.free A ad b → b < w.heap.size → (s.over aG).free (fun b => (s.free A ad b ∧ b < w.heap.size) ∨ cC b ∨ w'.heap.size ≤ b) (fun k => match aG k with | some _ => bg k | none => ad k) b := by
    intro b ar ao;refine ⟨.inl ⟨ar, ao⟩, fun k cs af => ?_⟩;rcases jE (show b0 aG s.mem k = some cs from af) with h | ⟨h, aF⟩
    · simp only [h]
      intro e;rcases cH b (.inl ⟨k, cs, h, e⟩) with q | q
      · exact rS b ar q
      · omega
    · simp only [h]; exact ar.2 k cs aF
  have F7 : ∀ b, cC b → (s.over aG).free (fun b => (s.free A ad b ∧ b < w.heap.size) ∨ cC b ∨ w'.heap.size ≤ b) (fun k => match aG k with | some _ => bg k | none => ad k) b := by
    intro b hu;refine ⟨.inr (.inl hu), fun k cs af => ?_⟩;rcases jE (show b0 aG s.mem k = some cs from af) with h | ⟨h, aF⟩
    · simp only [h]
      intro e;exact Gv b hu (.inl ⟨k, cs, h, e⟩)
    · simp only [h]
      intro e;subst e;rcases cG _ hu with q | q | q
      · exact q.2 k cs aF rfl
      · have := ax.rel.lt aF; omega
      · exact zH k cs h aF q
  have ee : (s.over aG).cN := by
    have zv : ∀ j, (∃ cs, s.mem j = some cs) → ∃ cs, (s.over aG).mem j = some cs := by
      rintro j ⟨cs, h⟩;show ∃ cs, b0 aG s.mem j = some cs;cases fS : aG j with
      | some c => exact ⟨c, hn fS⟩
      | none => exact ⟨cs, by rw [ho fS]; exact h⟩
    refine ⟨fun t av j aD ae => zv j (ok.gO t av j aD ae), fun k cs x j af aa ae => ?_⟩;rcases jE (show b0 aG s.mem k = some cs from af) with h | ⟨h, aF⟩
    · obtain ⟨c, ak⟩ := cK.fG k cs x j h aa ae
      exact ⟨c, hn ak⟩
    · exact zv j (ok.dx k cs x j aF aa ae)
  have aaH : ∀ k cs, m0 k = some cs → ec bg aG az (ad k) := fun k cs af => by
    obtain ⟨e, au, h⟩ := bB k cs af;exact .inl ⟨k, au, h, e⟩
  have MJ : ∀ b, ec ad m0 R0 b → ¬ bt.F b := by
    rintro b (⟨k, cs, af, rfl⟩ | ⟨i, r, hi, aw⟩)
    · exact ax.oy k cs (hm k cs af)
    · exact (ax.hot i r b (aq i r hi) aw).1
  have OC : ∀ b, w.heap.size ≤ b → ¬ bt.F b := fun b h ar => by have := bt.lt b ar; have := ax.below.size; omega
  refine ⟨⟨ax.up, ?_, ?_, fun k cs af ar => ?_, ⟨ab.os.trans ax.below.os, ab.tape.trans ax.below.tape, ab.output.trans ax.below.output, kS ax.below.size ab.size, fun b ar => ?_⟩, fun i r hi => ?_, fun i j r q hi ae gu g aw => ?_, fun i r g hi aw => ?_, fun k b af => ?_⟩, F7, ee⟩
  · rintro b (h | h | h)
    · exact ax.sub b h.1.1
    · rcases cG b h with q | q | ⟨k, cs, af, rfl⟩ | ⟨i, r, hi, aw⟩
      · exact ax.sub b q.1
      · exact ax.up b (kS ax.below.size q)
      · exact absurd (aaH k cs af) (Gv _ h)
      · exact (ax.hot i r b (aq i r hi) aw).2
    · exact ax.up b (by have := ax.below.size; omega)
  · refine ⟨ax.rel.pH, ax.rel.size, fun t av aD => ?_, fun k cs af => ?_, fun k k' cs au af eL e => ?_, jN.refl _, fun b h => .inr (.inr h), wL _ _ _⟩
    · obtain ⟨v, h1, h2⟩ := ax.rel.gO t av aD
      exact ⟨v, h1, h2.map (fun b ar ao => ⟨F6 b ar ao, uY b ao (rS b ar)⟩) fun j ae => ja j (ok.gO t av j aD ae)⟩
    · rcases jE (show b0 aG s.mem k = some cs from af) with h | ⟨h, aF⟩
      · obtain ⟨vs, ty, h1, h2, _⟩ := cK.dx k cs h
        refine ⟨vs, ty, by simp only [h]; exact h1, h2.map (fun b hu _ => ⟨F7 b hu, rfl⟩) fun j x aa ae => ?_, fun ar => ar.2 k cs af rfl⟩;obtain ⟨c, ak⟩ := cK.fG k cs x j h aa ae;exact YQ j c ak
      · obtain ⟨vs, ty, h1, h2, _⟩ := ax.rel.dx k cs aF
        refine ⟨vs, ty, by simp only [h]; rw [uY _ (ax.rel.lt aF) (zH k cs h aF)]; exact h1, h2.map (fun b ar ao => ⟨F6 b ar ao, uY b ao (rS b ar)⟩) fun j x aa ae => ja j (ok.dx k cs x j aF aa ae), fun ar => ar.2 k cs af rfl⟩
    · rcases jE (show b0 aG s.mem k = some cs from af) with h | ⟨h, aF⟩
      · rcases jE (show b0 aG s.mem k' = some au from eL) with g | ⟨g, iW⟩
        · simp only [h, g] at e
          exact cK.inj k k' cs au h g e
        · simp only [h, g] at e
          rcases cH _ (.inl ⟨k, cs, h, e⟩) with q | q
          · exact absurd q (zH k' au g iW)
          · have := ax.rel.lt iW; omega
      · rcases jE (show b0 aG s.mem k' = some au from eL) with g | ⟨g, iW⟩
        · simp only [h, g] at e
          rcases cH _ (.inl ⟨k', au, g, e.symm⟩) with q | q
          · exact absurd q (zH k cs h aF)
          · have := ax.rel.lt aF; omega
        · simp only [h, g] at e
          exact ax.rel.inj k k' cs au aF iW e
  · rcases jE (show b0 aG s.mem k = some cs from af) with h | ⟨h, aF⟩
    · simp only [h] at ar
      rcases cH _ (.inl ⟨k, cs, h, rfl⟩) with q | q
      · exact MJ _ q ar
      · exact OC _ q ar
    · simp only [h] at ar
      exact ax.oy k cs aF ar
  · exact (uY b (tX (bt.lt b ar) ax.below.size) fun h => MJ b h ar).trans (ax.below.block b ar)
  · rcases jE hi with h | ⟨h, aF⟩
    · obtain ⟨lh, ak, aw⟩ := cK.rows i r h
      refine ⟨lh.kept ak (fun _ _ => rfl) (dW _) (fun b hu _ => ⟨F7 b hu, rfl⟩), ak, fun g q => ?_⟩;have a6 : ec bg aG az g := .inr ⟨i, r, h, q⟩;refine ⟨?_, fun k cs af => ?_⟩
      · rintro (z | z | z)
        · rcases cH g a6 with y | y
          · exact rS g z.1 y
          · omega
        · exact Gv g z a6
        · have := CI g a6; omega
      · rcases jE (show b0 aG s.mem k = some cs from af) with y | ⟨y, y'⟩
        · simp only [y]; exact (aw g q).2 k cs y
        · simp only [y]
          intro e;subst e;rcases cH _ a6 with z | z
          · exact zH k cs y y' z
          · have := ax.rel.lt y'; omega
    · obtain ⟨lh, ak, aw⟩ := ax.rows i r aF
      refine ⟨lh.kept ak (fun g q => uY g (xx i r aF g q) (Ad i r h aF g q)) bW (fun b ar df => ⟨F6 b ar df, uY b df (rS b ar)⟩), ak, fun g q => ⟨?_, fun k cs af => ?_⟩⟩
      · rintro (z | z | z)
        · exact (aw g q).1 z.1.1
        · rcases cG g z with y | y | y
          · exact (aw g q).1 y.1
          · have := xx i r aF g q; omega
          · exact Ad i r h aF g q y
        · have := xx i r aF g q; omega
      · rcases jE (show b0 aG s.mem k = some cs from af) with y | ⟨y, y'⟩
        · simp only [y]
          intro e;rcases cH g (.inl ⟨k, cs, y, e⟩) with z | z
          · exact Ad i r h aF g q z
          · have := xx i r aF g q; omega
        · simp only [y]; exact (aw g q).2 k cs y'
  · rcases jE hi with h | ⟨h, aF⟩
    · rcases jE ae with y | ⟨y, y'⟩
      · exact cK.apart i j r q h y gu g aw
      · intro al
        rcases cH g (.inr ⟨i, r, h, aw⟩) with z | z
        · exact Ad j q y y' g al z
        · have := xx j q y' g al; omega
    · rcases jE ae with y | ⟨y, y'⟩
      · intro al
        rcases cH g (.inr ⟨j, q, y, al⟩) with z | z
        · exact Ad i r h aF g aw z
        · have := xx i r aF g aw; omega
      · exact ax.apart i j r q aF y' gu g aw
  · rcases jE hi with h | ⟨h, aF⟩
    · rcases cH g (.inr ⟨i, r, h, aw⟩) with (⟨k, cs, af, e⟩ | ⟨j, q, ae, al⟩) | z
      · obtain ⟨bw, au, aH⟩ := bB k cs af
        exact absurd (bw.trans e) (((cK.rows i r h).2.2 g aw).2 k au aH)
      · exact ax.hot j q g (aq j q ae) al
      · exact ⟨OC g z, ax.up g (by have := ax.below.size; omega)⟩
    · exact ax.hot i r g aF aw
  · obtain ⟨h1, h2⟩ := ax.jT k b af
    refine ⟨h1, ?_⟩;cases fS : aG k with
    | none => exact h2
    | some c =>
      rcases f1 k c fS with ⟨cs, aH⟩ | aH
      · exact (bB k cs aH).1.trans h2
      · exact absurd (fn k c fS aH) (Nat.not_lt.2 h1)
structure ul (P : Program) (T : Nat → Bool) (R : aJ) (s : aC) (o : Oper) (K : aJ → aC → Prop) : Prop where
  ex : ∃ f args m0 R0 Post, sK P s.look o f args ∧ c6 P f args m0 R0 Post ∧ (∀ x ∈ args, ∀ j, x.owns j → ∃ cs, m0 j = some cs) ∧ (∀ k cs, m0 k = some cs → s.mem k = some cs ∧ (T k = true ∨ ∀ r aG az, Post r aG az → aG k = some cs)) ∧ bM R0 R ∧ (∀ k cs x j, m0 k = some cs → x ∈ cs → x.owns j → ∃ au, m0 j = some au) ∧
    ∀ r aG az, Post r aG az → (∀ j, r.owns j → ∃ cs, aG j = some cs) → (∀ k cs x j, aG k = some cs → x ∈ cs → x.owns j → ∃ au, aG j = some au) → (∀ k cs, m0 k = some cs → ∃ au, aG k = some au) →
      (∀ k au, aG k = some au → (∃ cs, m0 k = some cs) ∨ (s.mem k = none ∧ k < s.n)) ∧ K (b0 az R) ((s.over aG).put o.dst r)
theorem aC.cN.abN {aG : Mem} (ok : s.cN) (fG : ∀ k cs x j, aG k = some cs → x ∈ cs → x.owns j → ∃ au, aG j = some au) : (s.over aG).cN := by
  have zv : ∀ j, (∃ cs, s.mem j = some cs) → ∃ cs, (s.over aG).mem j = some cs := by
    rintro j ⟨cs, h⟩;show ∃ cs, b0 aG s.mem j = some cs;cases fS : aG j with
    | some c => exact ⟨c, hn fS⟩
    | none => exact ⟨cs, by rw [ho fS]; exact h⟩
  refine ⟨fun t av j aD ae => zv j (ok.gO t av j aD ae), fun k cs x j af aa ae => ?_⟩;rcases jE (show b0 aG s.mem k = some cs from af) with h | ⟨h, aF⟩
  · obtain ⟨c, ak⟩ := fG k cs x j h aa ae
    exact ⟨c, hn ak⟩
  · exact zv j (ok.dx k cs x j aF aa ae)
theorem aC.cN.Ih {aG : Mem} {r : aj} (ok : s.cN) (fG : ∀ k cs x j, aG k = some cs → x ∈ cs → x.owns j → ∃ au, aG j = some au) (iK : ∀ j, r.owns j → ∃ cs, aG j = some cs) (dst : Option Nat) : ((s.over aG).put dst r).cN :=
  (ok.abN fG).put fun j ae => by
    obtain ⟨c, ak⟩ := iK j ae;exact ⟨c, hn ak⟩
theorem ul.mono {K iA : aJ → aC → Prop} (ok : s.cN) {T : Nat → Bool} (h : ul P T R s o K) (dV : ∀ R s, s.cN → K R s → iA R s) : ul P T R s o iA := by
  obtain ⟨f, args, m0, R0, Post, ak, hp, ay, hm, aq, fG, af⟩ := h.ex;refine ⟨f, args, m0, R0, Post, ak, hp, ay, hm, aq, fG, fun r aG az h1 h2 ap aL => ?_⟩;obtain ⟨f1, k⟩ := af r aG az h1 h2 ap aL;exact ⟨f1, dV _ _ (ok.Ih ap h2 _) k⟩
theorem ul.sound {K : aJ → aC → Prop} {T : Nat → Bool} (h : ul P T R s o K) (hd : ∀ d, o.dst = some d → d < s.n) (ax : er bt bS R s a w A ad) (ok : s.cN) {iA : Act → World → Prop} (dV : ∀ az s' a' w', s'.cN → o0 bt bS az s' a' w' → K az s' → iA a' w') : o.wp P a w iA Q := by
  obtain ⟨f, args, m0, R0, Post, ak, hp, ay, fS, aq, fG, af⟩ := h.ex;have hm : ∀ k cs, m0 k = some cs → s.mem k = some cs := fun k cs h => (fS k cs h).1;obtain ⟨us, dJ, gv⟩ := ak.run ax.rel;unfold Oper.wp;rw [gv];refine (hp.call (s.free A ad) ad w us (ax.part hm aq fG) ay dJ).mono ?_;rintro e w' ⟨v, r, aG, az, bg, cC, rfl, jw, cK, hv, iK, bB, cf, cG, cH, ab⟩;obtain ⟨f1, eL⟩ := af r aG az jw iK cK.fG fun k cs h => (bB k cs h).2
  obtain ⟨cu, dz, dC⟩ := ax.called ok hm aq cK bB cf (fun k c h => (f1 k c h).imp id And.left) (fun k c h aH => by
    rcases f1 k c h with ⟨cs, q⟩ | q
    · rw [hm k cs q] at aH; cases aH
    · exact q.2) cG cH ab
  have b8 : c9 ((s.over aG).free (fun b => (s.free A ad b ∧ b < w.heap.size) ∨ cC b ∨ w'.heap.size ≤ b) (fun k => match aG k with | some _ => bg k | none => ad k)) (fun k => match aG k with | some _ => bg k | none => ad k) w' r v :=
    hv.map (fun b hu _ => ⟨dz b hu, rfl⟩) fun j ae => by
      obtain ⟨c, ak⟩ := iK j ae;simp only [ak]
  refine dV _ _ _ _ (dC.put fun j ae => ?_) ⟨_, _, cu.put (fun d' e => hd d' e) b8⟩ eL;obtain ⟨c, ak⟩ := iK j ae;exact ⟨c, hn ak⟩
end
def we (o : Oper) : Bool := match o.op with
  | .call ⟨.builtin .append, _, _⟩ => true
  | .call ⟨.builtin .copy, _, _⟩ => true
  | _ => false
def u3 (o : Oper) : Bool := match o.op with
  | .call ⟨.builtin .append, _, _⟩ => true
  | .call ⟨.builtin .copy, _, _⟩ => true
  | .buildSlice .. => true
  | .makeSlice .. => true
  | _ => false
def Uf (o : Oper) : Bool := match o.op with
  | .call ⟨.value _, _, _⟩ => true
  | _ => false
def ae0 (o : Oper) : Bool := match o.op with
  | .store .. => true
  | _ => false
def dL (dr : Option (List Nat)) (o : Oper) : Bool := (Uf o && match dr with
  | none => true
  | some hs => hs.contains (o.dst.getD 1000000)) || (ae0 o && match dr with
  | none => false
  | some hs => hs.contains 4000000)
def QF (dr : Option (List Nat)) (o : Oper) : Bool := match dr with
  | none => true
  | some _ => dL dr o
def rB (dr : Option (List Nat)) (o : Oper) : Bool := match dr with
  | none => false
  | some hs => hs.contains (3000000 + o.dst.getD 0)
def oS (dr : Option (List Nat)) (k : Nat) : Bool := match dr with
  | none => true
  | some hs => hs.contains (2000000 + k)
def qB (dr : Option (List Nat)) (look : Operand → Option aj) (o : Oper) : Bool := match dr with
  | none => true
  | some hs => bif hs.isEmpty then true else match o.op with
    | .load _ x => match look x with
      | some (.w (.one (.own k _))) => !hs.contains (2000000 + k)
      | _ => true
    | _ => true
def kQ (o : Oper) : Bool := match o.op with
  | .store .. => true
  | .alloc _ => true
  | .box .. => true
  | _ => false
def z7 (ops : Array Oper) (hs : List Nat) (dst : Option Nat) : Bool := (List.range ops.size).all fun k => match ops[k]? with
  | some ok => !(ok.dst == dst) || (List.range ops.size).all fun j => match ops[j]? with
    | some bk => !(we bk || dL (some hs) bk) || waits .any ops 8 j k
    | none => true
  | none => true
def tZ (ops : Array Oper) (dr : Option (List Nat)) (dst : Option Nat) : Bool := match dr with
  | none => true
  | some hs => z7 ops hs dst
inductive ri (P : Program) (ops : Array Oper) (dr : Option (List Nat)) (R : aJ) (s : aC) (o : Oper) : Bool → cm → Prop
  | kE (b : Bool) (e : cm) (h : eU P s.n s.look s.mem o b e) (aD : qB dr s.look o = true) : ri P ops dr R s o b e
  | read (av : aj) (h : kz P R s.look o av) (ak : av.closed) (aq : tZ ops dr o.dst = true) : ri P ops dr R s o true ⟨av, none⟩
def uS (P : Program) (ops : Array Oper) (dr : Option (List Nat)) (o : Oper) (K : aJ → aC → Prop) (R : aJ) (s : aC) : Prop :=
  ∃ b, want ops o s = some b ∧ (∀ d, o.dst = some d → d < s.n) ∧ ((∃ e, ri P ops dr R s o b e ∧ K R (e.on o.dst s)) ∨ (b = true ∧ ∃ d f, ∃ ij : Value → Prop, o.dst = some d ∧ (kA P R s.look o f ij ∧ rB dr o = false) ∧ ∀ aV : Value, ij aV → K (f aV) (s.put (some d) (aQ aV))) ∨ (b = true ∧ QF dr o = true ∧ ∃ az, o.dst = none ∧ sL P R s.look o az ∧ K az s) ∨
    (b = true ∧ dr = none ∧ ∃ d f i, ∃ g : Value → bP, o.dst = some d ∧ kA P R s.look o f Be ∧ (∀ aV, f aV i = some (g aV) ∧ (g aV).v = aV ∧ 0 < (g aV).sz) ∧ ∀ aV : Value, aV.oneCell' = true → K (fun j => if j = i then none else f aV j) (s.put (some d) (cM (g aV).sz (g aV).n (g aV).aU))) ∨
    (b = true ∧ dL dr o = true ∧ ul P (oS dr) R s o K) ∨
    (b = true ∧ dL dr o = true ∧ ul P (oS dr) R s o fun az s' => ∃ i d r, o.dst = some d ∧ az i = some r ∧ 0 < r.sz ∧ s'.tmps d = some (aQ r.v) ∧ d < s'.n ∧ K (fun j => if j = i then none else az j) (s'.put (some d) (cM r.sz r.n r.aU))))
def cL (P : Program) (ops : Array Oper) (dr : Option (List Nat)) (K : aJ → aC → Prop) : List Oper → aJ → aC → Prop
  | [], R, s => K R s
  | o :: rest, R, s => uS P ops dr o (cL P ops dr K rest) R s
def wJ (P : Program) (md : Region.Mode) (ops : Array Oper) (hs : List Nat) (K : aJ → aC → Prop) : Nat → Array Bool → aJ → aC → Prop
  | 0, bx, R, s => Region.ready md ops bx = [] ∧ K R s
  | ff + 1, bx, R, s => (Region.ready md ops bx = [] → K R s) ∧
    ∀ i ∈ Region.ready md ops bx, ∀ o, ops[i]? = some o → uS P ops (some hs) o (wJ P md ops hs K ff (bx.setIfInBounds i true)) R s
section
variable {P : Program} {bt : eX} {bS A : Nat → Prop} {R : aJ} {s s' : aC} {a a' : Act} {w w' : World} {ad bg : Nat → Nat} {o bn bk : Oper} {ops : Array Oper} {md : Region.Mode} {dr : Option (List Nat)} {hs : List Nat}
theorem ri.ok {b : Bool} {e : cm} (ok : s.cN) (h : ri P ops dr R s o b e) (hd : ∀ d, o.dst = some d → d < s.n) : (e.on o.dst s).cN := by
  cases h with
  | kE b e h aD => exact yr ok h hd
  | read av h ak aq => exact ok.put fun j ae => absurd ae (ak j)
theorem Iu (ok : s.cN) (d : Nat) (v : Value) : (s.put (some d) (aQ v)).cN := ok.put fun j ae => absurd ae (iO v j)
theorem L8 {K iA : aJ → aC → Prop} (ok : s.cN) (h : ∀ R s, s.cN → K R s → iA R s) (a6 : uS P ops dr o K R s) : uS P ops dr o iA R s := by
  obtain ⟨b, hw, hd, h1 | ⟨ab, d, f, ij, dw, ar, af⟩ | ⟨ab, oe, az, dw, ar, af⟩ | ⟨ab, oe, d, f, i, g, dw, ar, aw, af⟩ | ⟨ab, hm, ak⟩ | ⟨ab, hm, ak⟩⟩ := a6
  · obtain ⟨e, he, af⟩ := h1
    exact ⟨b, hw, hd, .inl ⟨e, he, h _ _ (he.ok ok hd) af⟩⟩
  · exact ⟨b, hw, hd, .inr (.inl ⟨ab, d, f, ij, dw, ar, fun aV hv => h _ _ (Iu ok d aV) (af aV hv)⟩)⟩
  · exact ⟨b, hw, hd, .inr (.inr (.inl ⟨ab, oe, az, dw, ar, h _ _ ok af⟩))⟩
  · exact ⟨b, hw, hd, .inr (.inr (.inr (.inl ⟨ab, oe, d, f, i, g, dw, ar, aw, fun aV hv => h _ _ (ok.put fun j ae => absurd ae (ll _ j)) (af aV hv)⟩)))⟩
  · exact ⟨b, hw, hd, .inr (.inr (.inr (.inr (.inl ⟨ab, hm, ak.mono ok h⟩))))⟩
  · refine ⟨b, hw, hd, .inr (.inr (.inr (.inr (.inr ⟨ab, hm, ak.mono ok fun R s abH af => ?_⟩))))⟩
    obtain ⟨i, d, r, aH, h1, aZ, h2, ap, aL⟩ := af;exact ⟨i, d, r, aH, h1, aZ, h2, ap, h _ _ (abH.put fun j ae => absurd ae (ll _ j)) aL⟩
theorem er.uJ (ax : er bt bS R s a w A ad) (i d : Nat) (r : bP) (hi : R i = some r) (bW : 0 < r.sz) (Xw : s.tmps d = some (aQ r.v)) (fQ : d < s.n) : ∃ ei, er bt bS (fun j => if j = i then none else R j) (s.put (some d) (cM r.sz r.n r.aU)) a w ei ad := by
  obtain ⟨oh, cO, aw⟩ := ax.rows i r hi;obtain ⟨xs, ay, ao⟩ := oh.row bW;have yH : ∀ b, s.free A ad b → b < w.heap.size → s.free (fun b => A b ∨ r.v.ownBlock = some b) ad b ∧ w.heap[b]? = w.heap[b]? := fun b ab _ => ⟨⟨.inl ab.1, ab.2⟩, rfl⟩;have Gs : Rel (nt bt s ad w) (fun b => A b ∨ r.v.ownBlock = some b) s ad a w := ax.rel.yb (fun b ab _ => ⟨.inl ab, rfl⟩) (fun k cs af => ⟨rfl, fun ar => ar.2 k cs af rfl⟩) (jN.refl _) (fun b ab => .inl (ax.rel.up b ab)) (wL _ _ _)
  have wK : er bt bS (fun j => if j = i then none else R j) s a w (fun b => A b ∨ r.v.ownBlock = some b) ad := by
    refine ⟨ax.up, ?_, Gs, ax.oy, ax.below, fun j q ae => ?_, fun j k q cA ae af kK => ?_, fun j q g ae => ?_, ax.jT⟩
    · rintro b (ab | ab)
      · exact ax.sub b ab
      · exact (ax.hot i r b hi (.inl ab)).2
    · have gi : j ≠ i := fun e => by rw [if_pos e] at ae; cases ae
      rw [if_neg gi] at ae;obtain ⟨lh, Au, Av⟩ := ax.rows j q ae;refine ⟨lh.kept Au (fun _ _ => rfl) (dW _) yH, Au, fun g ew => ⟨?_, (Av g ew).2⟩⟩;rintro (ab | ab)
      · exact (Av g ew).1 ab
      · exact ax.apart i j r q hi ae (Ne.symm gi) g (.inl ab) ew
    · have gi : j ≠ i := fun e => by rw [if_pos e] at ae; cases ae
      have km : k ≠ i := fun e => by rw [if_pos e] at af; cases af
      rw [if_neg gi] at ae;rw [if_neg km] at af;exact ax.apart j k q cA ae af kK
    · have gi : j ≠ i := fun e => by rw [if_pos e] at ae; cases ae
      rw [if_neg gi] at ae;exact ax.hot j q g ae
  have Gt : Rel (nt bt s ad w) (fun b => A b ∨ r.v.ownBlock = some b) (s.put (some d) (cM r.sz r.n r.aU)) ad a w := by
    refine wK.rel.P9 Xw fun v iL mO => ?_;obtain ⟨rfl, Gg⟩ := mO;have nw := ao.1;obtain ⟨kL, aE | ⟨g, cap, cur, kk, qp, uW, eM, js, ev, nC⟩⟩ := id ay
    · obtain ⟨aI, aO⟩ := aE
      have : r.aU = [] := mv (by rw [nw, kL, aO]; simp);rw [aI];exact ⟨⟨none, 0, by rw [aO], by omega, by rw [this, aO]; simp, fun h => absurd h (by omega)⟩, fun b ⟨c', a', q, aE, ab⟩ => by cases q⟩
    · have tp := ay.cells (g := g) (by rw [kk]; rfl)
      rw [kk];have qn : ky w ⟨g, 0, none⟩ r.aU xs := ⟨(kr.1 uW).1, ao.wu cO fun b _ _ => ⟨trivial, rfl⟩, tp, cO⟩;refine ⟨⟨some ⟨g, 0, none⟩, cap, rfl, eM, by rw [nw]; exact kL, fun aE => ⟨⟨g, 0, none⟩, xs, rfl, qn⟩⟩, ?_⟩;rintro b ⟨c', a', q, aE, ar⟩;cases q;rcases ar with rfl | ⟨j, y, v, ah, hv, gh⟩
      · exact ⟨.inr rfl, (aw g (.inl (by rw [kk]; rfl))).2⟩
      · have bj : j < xs.length := by rw [← nw]; exact (bX.1 ah).1
        have h2 := tp j _ (cp bj);rw [hv] at h2;cases h2;have ap := ao.2 j y _ ah (cp bj);cases y with
        | c u => cases gh
        | own k o => cases gh
        | p S => have := ap.2 b gh; exact ⟨.inl this.1, this.2⟩
  exact ⟨_, wK.next (s' := s.put (some d) (cM r.sz r.n r.aU)) (a' := a) (w' := w) (bg := ad) Gt⟩
theorem zX (s : aC) (d : Nat) (u v : aj) : (s.put (some d) u).put (some d) v = s.put (some d) v := by
  simp only [aC.put, aC.mk.injEq, true_and, and_true];funext j
  by_cases e : j = d
  · subst e; rw [cr, cr]
  · rw [cl _ _ e, cl _ _ e, cl _ _ e]
theorem L9 {ro : Option Nat} {K : aJ → aC → Prop} {iA : Act → World → Prop} {Q : Exit → Act → World → Prop} {i : Nat} (hi : ops[i]? = some o) (ok : s.cN) (ax : o0 bt bS R s a w) (h : uS P ops dr o K R s)
    (dV : ∀ az s' a' w', s'.cN → o0 bt bS az s' a' w' → K az s' → iA a' w') : wpOpIn (l4 ro) 0 P ops Q i iA a w := by
  obtain ⟨A, ad, ax⟩ := ax;obtain ⟨b, hw, hd, h⟩ := h;have om := Re hw ax.rel;unfold wpOpIn;simp only [hi];cases b with
  | true =>
    rw [om];simp only [if_true];refine Oper.Rg ?_ ?nd
    case nd =>
      rcases h with ⟨e, he, _⟩ | ⟨_, d, f, ij, dw, ⟨ar, _⟩, _⟩ | ⟨_, _, az, dw, ar, _⟩ | ⟨_, _, d, f, i, g, dw, ar, _⟩ | ⟨_, _, ak⟩ | ⟨_, _, ak⟩
      · cases he with
        | kE b e he _ => exact (he.step hd).OI ax.rel
        | read av h ak aq =>
          obtain ⟨v, h1, h2⟩ := h.sound ax;exact xh h1 (fun d h => by cases h)
      · obtain ⟨aV, w2, ei, h1, _⟩ := ar.sound ax (hd d dw)
        exact xh h1 (fun d h => by cases h)
      · obtain ⟨w2, ei, h1, _⟩ := ar.sound ax
        exact xh h1 (fun d h => by cases h)
      · obtain ⟨aV, w2, ei, h1, _⟩ := ar.sound ax (hd d dw)
        exact xh h1 (fun d h => by cases h)
      · obtain ⟨f, args, m0, R0, Post, ⟨⟨c', g, ay, _⟩, _⟩, _⟩ := ak.ex
        intro c nu; rw [ay] at nu; cases nu
      · obtain ⟨f, args, m0, R0, Post, ⟨⟨c', g, ay, _⟩, _⟩, _⟩ := ak.ex
        intro c nu; rw [ay] at nu; cases nu
    rcases h with ⟨e, he, af⟩ | ⟨_, d, f, ij, dw, ⟨ar, _⟩, af⟩ | ⟨_, _, az, dw, ar, af⟩ | ⟨_, _, d, f, i, g, dw, ar, aw, af⟩ | ⟨_, _, ak⟩ | ⟨_, _, ak⟩
    · have dC := he.ok ok hd
      cases he with
      | kE b e he _ => exact Oper.wp_mono (fun a' w' ⟨bg, aq⟩ => dV _ _ a' w' dC ⟨A, bg, ax.next aq⟩ af) (k3.sound (he.step hd) ax.rel ok)
      | read av h ak aq =>
        obtain ⟨v, h1, h2⟩ := h.sound ax;exact Oper.vK h1 (dV _ _ _ _ dC ⟨A, ad, ax.put hd h2⟩ af)
    · obtain ⟨aV, w2, ei, h1, h2, ap⟩ := ar.sound ax (hd d dw)
      refine Oper.vK h1 ?_;rw [dw];exact dV _ _ _ _ (Iu ok d aV) ⟨ei, ad, ap⟩ (af aV h2)
    · obtain ⟨w2, ei, h1, h2⟩ := ar.sound ax
      unfold Oper.wp;rw [h1, Oper.upon_skip, dw];exact dV _ _ _ _ ok ⟨ei, ad, h2⟩ af
    · have fQ := hd d dw
      obtain ⟨aV, w2, ei, h1, h2, ap⟩ := ar.sound ax fQ;refine Oper.vK h1 ?_;rw [dw];obtain ⟨nX, aL⟩ := ap.uJ i d (g aV) (aw aV).1 (aw aV).2.2 (by rw [(aw aV).2.1]; exact cr _ _ _) fQ;rw [zX] at aL;exact dV _ _ _ _ (ok.put fun j ae => absurd ae (ll _ j)) ⟨nX, ad, aL⟩ (af aV h2)
    · exact ak.sound hd ax ok dV
    · refine ak.sound hd ax ok fun az s' a' w' dC cu af => ?_
      obtain ⟨i, d, r, _, h1, aZ, h2, ap, aL⟩ := af;obtain ⟨nX, AF, wK⟩ := cu;obtain ⟨uf, Gt⟩ := wK.uJ i d r h1 aZ h2 ap;exact dV _ _ _ _ (dC.put fun j ae => absurd ae (ll _ j)) ⟨uf, AF, Gt⟩ aL
  | false =>
    rw [om];simp only [nM, if_false];rcases h with ⟨e, he, af⟩ | ⟨h, _⟩ | ⟨h, _⟩ | ⟨h, _⟩ | ⟨h, _⟩ | ⟨h, _⟩
    · have dC := he.ok ok hd
      cases he with
      | kE b e he _ =>
        cases he;exact ⟨fun _ _ => trivial, dV _ _ _ _ dC ⟨A, ad, ax.put hd (c9.undef _)⟩ af⟩
    · cases h
    · cases h
    · cases h
    · cases h
    · cases h
theorem eU.BQ {n : Nat} {look gj : Operand → Option aj} {mem : Nat → Option (List AC)} {b : Bool} {e : cm} (h : eU P n look mem o b e) (el : ∀ x ∈ o.op.operands, gj x = look x) : eU P n gj mem o b e := by
  cases h with
  | skip => exact .skip
  | quiet av al => exact .quiet av (al.congr el)
  | fresh av al => exact .fresh av (al.congr el)
  | load ty x k off cs av ay aa hm hv => exact .load ty x k off cs av ay (by rw [el x (by simp [ay, Op.operands])]; exact aa) hm hv
  | store ty x y k off cs z i ay aa ah hm hi hs ab => exact .store ty x y k off cs z i ay (by rw [el x (by simp [ay, Op.operands])]; exact aa) (by rw [el y (by simp [ay, Op.operands])]; exact ah) hm hi hs ab
  | new cs d dw hm aE => exact .new cs d dw hm (aE.congr el)
  | call g args r ak hp => exact .call g args r (ak.congr el) hp
theorem kA.ext {look : Operand → Option aj} {f : Value → aJ} {ij : Value → Prop} (h : kA P R look o f ij) (aE : we o = false) (v : Value) : bM R (f v) := by
  cases h with
  | uE i r tt bytes m jh jL news hi ay => simp [we, ay] at aE
  | copy i r tt t2 m lo hi x y news dd bW ay => simp [we, ay] at aE
  | new i t n e sz bytes parts vs zs r hi =>
    intro j q ae;have : j ≠ i := fun e => by subst e; rw [hi] at ae; cases ae
    show bQ R i _ j = some q;rw [cl _ _ this]; exact ae
  | make i t l c e sz bytes x y ox pG vs hi =>
    intro j q ae;have : j ≠ i := fun e => by subst e; rw [hi] at ae; cases ae
    show bQ R i _ j = some q;rw [cl _ _ this]; exact ae
theorem eU.OJ {n : Nat} {look : Operand → Option aj} {mem : Nat → Option (List AC)} {b : Bool} {e : cm} (h : eU P n look mem o b e) (hm : kQ o = false) : e.m = none := by
  cases h with
  | skip => rfl
  | quiet av al => rfl
  | fresh av al => rfl
  | load ty x k off cs av ay aa fS hv => rfl
  | store ty x y k off cs z i ay aa ah fS hi hs ab => simp [kQ, ay] at hm
  | new cs d dw fS aE =>
    cases aE with
    | alloc ty i z cs ay => simp [kQ, ay] at hm
    | box ty x z ay => simp [kQ, ay] at hm
  | call g args r ak hp => rfl
theorem eU.OK {n : Nat} {look : Operand → Option aj} {mem N6 : Nat → Option (List AC)} {b : Bool} {e : cm} (h : eU P n look mem o b e) (hm : kQ o = false) (XZ : ∀ ty x k off cs, o.op = .load ty x → look x = some (.w (.one (.own k off))) → mem k = some cs → N6 k = some cs) : eU P n look N6 o b e := by
  cases h with
  | skip => exact .skip
  | quiet av al => exact .quiet av al
  | fresh av al => exact .fresh av al
  | load ty x k off cs av ay aa fS hv => exact .load ty x k off cs av ay aa (XZ ty x k off cs ay aa fS) hv
  | store ty x y k off cs z i ay aa ah fS hi hs ab => simp [kQ, ay] at hm
  | new cs d dw fS aE =>
    cases aE with
    | alloc ty i z cs ay => simp [kQ, ay] at hm
    | box ty x z ay => simp [kQ, ay] at hm
  | call g args r ak hp => exact .call g args r ak hp
theorem zz {look gj : Operand → Option aj} (h : qB dr look o = true) (e : ∀ x ∈ o.op.operands, gj x = look x) : qB dr gj o = true := by
  unfold qB at h ⊢;cases dr with
  | none => rfl
  | some hs =>
    simp only at h ⊢;cases he : hs.isEmpty with
    | true => rfl
    | false =>
      rw [he] at h;simp only [cond_false] at h ⊢;cases ay : o.op with
      | load ty x =>
        rw [ay] at h;simp only at h ⊢;rw [e x (by simp [ay, Op.operands])]; exact h
      | _ => rfl
theorem NK {hs : List Nat} {look : Operand → Option aj} {ty : TypeId} {x : Operand} {k off : Nat} (h : qB (some hs) look o = true) (ay : o.op = .load ty x) (aa : look x = some (.w (.one (.own k off)))) : oS (some hs) k = false := by
  unfold qB at h;simp only at h;cases he : hs.isEmpty with
  | true =>
    have : hs = [] := List.isEmpty_iff.1 he;subst this; rfl
  | false =>
    rw [he] at h;simp only [cond_false, ay, aa, si] at h;exact h
theorem sL.congr {look gj : Operand → Option aj} {az : aJ} (h : sL P R look o az) (e : ∀ x ∈ o.op.operands, gj x = look x) : sL P R gj o az := by
  cases h with
  | store i r off ty x y z eB hi aE ay aa ah aD hs ab ak => exact .store i r off ty x y z eB hi aE ay (by rw [e x (by simp [ay, Op.operands])]; exact aa) (by rw [e y (by simp [ay, Op.operands])]; exact ah) aD hs ab ak
theorem WX {b : Bool} {e : cm} {K : aJ → aC → Prop} (ok : s.cN) (hw : want ops bn s = some b) (he : ri P ops (some hs) R s bn b e) (tq : ∀ d, bn.dst = some d → d < s.n) (pv : bn.apart ops bk = true) (mc : xT s bn bk) (w0 : z7 ops hs bn.dst = true → we bk = false ∧ dL (some hs) bk = false) (yZ : kQ bn = true → dL (some hs) bk = false) (h : uS P ops (some hs) bk K R (e.on bn.dst s)) :
    uS P ops (some hs) bk (fun az t => (∃ (f : cm) (dx : Mem), t = f.on bk.dst { s with mem := dx }) ∧ (want ops bn t = some b ∧ ri P ops (some hs) az t bn b e ∧ (∀ d, bn.dst = some d → d < t.n) ∧ t.cN) ∧ K az (e.on bn.dst t)) R s := by
  obtain ⟨a1, a2, a3⟩ := Oper.apart_spec pv;obtain ⟨c, rX, qq, a6⟩ := h;rw [xH (b := none) a1] at rX;have uU : ∀ d, bk.dst = some d → d < s.n := fun d hd => by have := qq d hd; rwa [cm.tQ] at this
  have mi : ∀ x ∈ bk.op.operands, (e.on bn.dst s).look x = s.look x := fun x aa => cm.qG _ _ _ fun d hd => tF (a1 d hd) aa;have kP : ∀ (f : cm), ∀ x ∈ bn.op.operands, (f.on bk.dst s).look x = s.look x := fun f x aa => cm.qG _ _ _ fun d hd => tF (a3 d hd) aa;have wi : ∀ f : cm, want ops bn (f.on bk.dst s) = some b := fun f => by rw [xH (b := none) a3]; exact hw
  have oB : ∀ f : cm, ∀ d, bn.dst = some d → d < (f.on bk.dst s).n := fun f d hd => by rw [cm.tQ]; exact tq d hd
  have KV : ∀ f : cm, f.m = none → f.on bk.dst (e.on bn.dst s) = e.on bn.dst (f.on bk.dst s) := fun f ar => cm.zQ e f bn.dst bk.dst s a2 fun k cs j ds _ h2 => by rw [ar] at h2; cases h2
 
  have QA : ∀ (az : aJ) (f : cm), f.m = none → (z7 ops hs bn.dst = true → bM R az) → ri P ops (some hs) az (f.on bk.dst s) bn b e := fun az f ar ao => by
    cases he with
    | kE b e he aD =>
      refine .kE _ _ ?_ (zz aD (kP f));rw [cm.tQ, cm.qH, ar];exact he.BQ (kP f)
    | read av h ak aq => exact .read av ((h.rows (ao aq)).congr (kP f)) ak aq
  refine ⟨c, rX, uU, ?_⟩;rcases a6 with ⟨f, ar, af⟩ | ⟨ab, d, f, ij, dw, ar, af⟩ | ⟨ab, oe, Xv⟩ | ⟨_, oe, _⟩ | ⟨ab, hm, ak⟩ | ⟨ab, hm, ak⟩
  · left
    cases ar with
    | kE c f ar Yz =>
      have MZ := zz Yz fun x aa => (mi x aa).symm;cases id he with
      | kE b e XC e4 =>
        obtain ⟨h1, h2, ap⟩ := eU.swap ok XC ar pv mc;exact ⟨f, .kE _ _ h1 MZ, ⟨f, s.mem, rfl⟩, ⟨wi f, .kE _ _ h2 (zz e4 (kP f)), oB f, yr ok h1 uU⟩, by rw [← ap]; exact af⟩
      | read av h ak aq =>
        have h1 : eU P s.n s.look s.mem bk c f := by
          have : eU P s.n ((⟨av, none⟩ : cm).on bn.dst s).look s.mem bk c f := by
            have := ar;rw [cm.tQ, cm.qH] at this;exact this
          exact this.BQ fun x aa => (mi x aa).symm
        refine ⟨f, .kE _ _ h1 MZ, ⟨f, s.mem, rfl⟩, ⟨wi f, .read av (h.congr (kP f)) ak aq, oB f, yr ok h1 uU⟩, ?_⟩;have : f.on bk.dst ((⟨av, none⟩ : cm).on bn.dst s) = (⟨av, none⟩ : cm).on bn.dst (f.on bk.dst s) := cm.zQ _ f bn.dst bk.dst s a2 fun k cs j ds h1 _ => by cases h1
        rw [← this]; exact af
    | read av aq ak Yn =>
      have h1 : kz P R s.look bk av := aq.congr fun x aa => (mi x aa).symm;refine ⟨⟨av, none⟩, .read av h1 ak Yn, ⟨⟨av, none⟩, s.mem, rfl⟩, ⟨wi _, QA R _ rfl (fun _ => .refl R), oB _, ok.put fun j ae => absurd ae (ak j)⟩, ?_⟩;rw [← KV _ rfl]; exact af
  · right; left
    have h1 : kA P R s.look bk f ij := ar.1.congr fun x aa => (mi x aa).symm;refine ⟨ab, d, f, ij, dw, ⟨h1, ar.2⟩, fun aV hv => ?_⟩;have aI : s.put (some d) (aQ aV) = (⟨aQ aV, none⟩ : cm).on bk.dst s := by rw [dw]; rfl
    have aO : (e.on bn.dst s).put (some d) (aQ aV) = (⟨aQ aV, none⟩ : cm).on bk.dst (e.on bn.dst s) := by rw [dw]; rfl
    have h2 := af aV hv;have OZ := Iu ok d aV;rw [aO, KV _ rfl] at h2;rw [aI] at OZ ⊢;exact ⟨⟨_, s.mem, rfl⟩, ⟨wi _, QA (f aV) _ rfl (fun a6 => h1.ext (w0 a6).1 aV), oB _, OZ⟩, h2⟩
  · obtain ⟨az, dw, ar, af⟩ := Xv
    have hm : dL (some hs) bk = true := oe
    have tu : kQ bn = false := by
      cases aa : kQ bn with
      | false => rfl
      | true => rw [yZ aa] at hm; cases hm
    have mb : eU P s.n s.look s.mem bn b e ∧ qB (some hs) s.look bn = true := by
      cases he with
      | kE b e he aD => exact ⟨he, aD⟩
      | read av h ak aq => rw [(w0 aq).2] at hm; cases hm
    have h1 : sL P R s.look bk az := ar.congr fun x aa => (mi x aa).symm;exact .inr (.inr (.inl ⟨ab, oe, az, dw, h1, ⟨⟨afr, none⟩, s.mem, by rw [dw]; rfl⟩, ⟨hw, .kE _ _ mb.1 mb.2, tq, ok⟩, af⟩))
  · cases oe
  · right; right; right; right; left
    refine ⟨ab, hm, ?_⟩
    have tu : kQ bn = false := by
      cases aa : kQ bn with
      | false => rfl
      | true => rw [yZ aa] at hm; cases hm
    have mb : eU P s.n s.look s.mem bn b e ∧ qB (some hs) s.look bn = true := by
      cases he with
      | kE b e he aD => exact ⟨he, aD⟩
      | read av h ak aq => rw [(w0 aq).2] at hm; cases hm
    have py : e.m = none := mb.1.OJ tu;obtain ⟨f, args, m0, R0, Post, GF, hp, ay, tv, aq, fG, af⟩ := ak.ex;refine ⟨f, args, m0, R0, Post, GF.congr (fun x aa => (mi x aa).symm), hp, ay, fun k cs aH => ?_, aq, fG, fun r aG az h1 h2 ap aL => ?_⟩
    · obtain ⟨this, aD⟩ := tv k cs aH
      rw [cm.qH, py] at this;exact ⟨this, aD⟩
    · obtain ⟨f1, dV⟩ := af r aG az h1 h2 ap aL
      have yx : (s.over aG).put bk.dst r = (⟨r, none⟩ : cm).on bk.dst { s with mem := b0 aG s.mem } := rfl
      have es : ((e.on bn.dst s).over aG).put bk.dst r = e.on bn.dst ((s.over aG).put bk.dst r) := by
        have dp : e.on bn.dst s = s.put bn.dst e.v := by unfold cm.on; rw [py]
        have aI : e.on bn.dst ((s.over aG).put bk.dst r) = ((s.over aG).put bk.dst r).put bn.dst e.v := by unfold cm.on; rw [py]
        have aO : (s.put bn.dst e.v).over aG = (s.over aG).put bn.dst e.v := by cases bn.dst <;> rfl
        rw [dp, aI, aO];exact aC.put_comm (s.over aG) e.v r a2
      have rI : ∀ k au, aG k = some au → (∃ cs, m0 k = some cs) ∨ (s.mem k = none ∧ k < s.n) := fun k au aH => by
        have := f1 k au aH;rw [cm.qH, py, cm.tQ] at this;exact this
      have GV : eU P s.n s.look (b0 aG s.mem) bn b e := mb.1.OK tu fun ty x k off cs ay aa af => by
        have aD := NK mb.2 ay aa;cases u0 : aG k with
        | none => rw [ho u0]; exact af
        | some c =>
          rcases rI k c u0 with ⟨k7, aH⟩ | ⟨aH, _⟩
          · obtain ⟨pE, Hg | rU⟩ := tv k k7 aH
            · rw [Hg] at aD; cases aD
            · rw [hn (rU r aG az h1)]
              rw [cm.qH, py] at pE;exact pE.symm.trans af
          · rw [aH] at af; cases af
      refine ⟨fun k au aH => ?_, ⟨⟨_, _, yx⟩, ⟨?_, ?_, fun d hd => ?_, ok.Ih ap h2 _⟩, by rw [← es]; exact dV⟩⟩
      · exact rI k au aH
      · rw [yx, xH (b := none) a3]; exact hw
      · refine .kE _ _ ?_ (zz mb.2 fun x aa => by rw [yx]; exact (cm.qG _ _ _ fun d hd => tF (a3 d hd) aa).trans (by cases x <;> rfl))
        have ao : ∀ x ∈ bn.op.operands, ((s.over aG).put bk.dst r).look x = s.look x := fun x aa => by
          rw [yx];exact (cm.qG _ _ _ fun d hd => tF (a3 d hd) aa).trans (by cases x <;> rfl)
        have aE : ((s.over aG).put bk.dst r).n = s.n := by rw [aC.sa]; rfl
        rw [aE, aC.xd];exact GV.BQ ao
      · rw [aC.sa]; exact tq d hd
  · right; right; right; right; right
    refine ⟨ab, hm, ?_⟩
    have tu : kQ bn = false := by
      cases aa : kQ bn with
      | false => rfl
      | true => rw [yZ aa] at hm; cases hm
    have mb : eU P s.n s.look s.mem bn b e ∧ qB (some hs) s.look bn = true := by
      cases he with
      | kE b e he aD => exact ⟨he, aD⟩
      | read av h ak aq => rw [(w0 aq).2] at hm; cases hm
    have py : e.m = none := mb.1.OJ tu;obtain ⟨f, args, m0, R0, Post, GF, hp, ay, tv, aq, fG, af⟩ := ak.ex;refine ⟨f, args, m0, R0, Post, GF.congr (fun x aa => (mi x aa).symm), hp, ay, fun k cs aH => ?_, aq, fG, fun r aG az h1 h2 ap aL => ?_⟩
    · obtain ⟨this, aD⟩ := tv k cs aH
      rw [cm.qH, py] at this;exact ⟨this, aD⟩
    · obtain ⟨f1, dV⟩ := af r aG az h1 h2 ap aL
      have yx : (s.over aG).put bk.dst r = (⟨r, none⟩ : cm).on bk.dst { s with mem := b0 aG s.mem } := rfl;obtain ⟨i, d, q, dw, mf, y7, G7, ahs, dV⟩ := dV
      have Yj : ((s.over aG).put bk.dst r).tmps d = some (aQ q.v) := by
        rw [dw] at G7 ⊢;simp only [aC.put, cr] at G7 ⊢;exact G7
      have GY : ((s.over aG).put bk.dst r).n = s.n := by rw [aC.sa]; rfl
      have B4 : ((s.over aG).put bk.dst r).put (some d) (cM q.sz q.n q.aU) = (⟨cM q.sz q.n q.aU, none⟩ : cm).on bk.dst { s with mem := b0 aG s.mem } := by rw [dw, zX]; rfl
      have FW : (((e.on bn.dst s).over aG).put bk.dst r).put (some d) (cM q.sz q.n q.aU) = e.on bn.dst (((s.over aG).put bk.dst r).put (some d) (cM q.sz q.n q.aU)) := by
        have dp : e.on bn.dst s = s.put bn.dst e.v := by unfold cm.on; rw [py]
        have aI : ∀ u : aC, e.on bn.dst u = u.put bn.dst e.v := fun u => by unfold cm.on; rw [py]
        have aO : (s.put bn.dst e.v).over aG = (s.over aG).put bn.dst e.v := by cases bn.dst <;> rfl
        rw [dp, aI, aO, dw, zX, zX];exact aC.put_comm (s.over aG) e.v _ (by rw [← dw]; exact a2)
      rw [FW] at dV;have Mm : d < s.n := uU d dw
      have rI : ∀ k au, aG k = some au → (∃ cs, m0 k = some cs) ∨ (s.mem k = none ∧ k < s.n) := fun k au aH => by
        have := f1 k au aH;rw [cm.qH, py, cm.tQ] at this;exact this
      have GV : eU P s.n s.look (b0 aG s.mem) bn b e := mb.1.OK tu fun ty x k off cs ay aa af => by
        have aD := NK mb.2 ay aa;cases u0 : aG k with
        | none => rw [ho u0]; exact af
        | some c =>
          rcases rI k c u0 with ⟨k7, aH⟩ | ⟨aH, _⟩
          · obtain ⟨pE, Hg | rU⟩ := tv k k7 aH
            · rw [Hg] at aD; cases aD
            · rw [hn (rU r aG az h1)]
              rw [cm.qH, py] at pE;exact pE.symm.trans af
          · rw [aH] at af; cases af
      refine ⟨fun k au aH => ?_, i, d, q, dw, mf, y7, Yj, by rw [GY]; exact Mm, ⟨⟨_, _, B4⟩, ⟨?_, ?_, fun d hd => ?_, (ok.Ih ap h2 _).put fun j ae => absurd ae (ll _ j)⟩, dV⟩⟩
      · exact rI k au aH
      · rw [B4, xH (b := none) a3]; exact hw
      · refine .kE _ _ ?_ (zz mb.2 fun x aa => by rw [B4]; exact (cm.qG _ _ _ fun d hd => tF (a3 d hd) aa).trans (by cases x <;> rfl))
        have ao : ∀ x ∈ bn.op.operands, (((s.over aG).put bk.dst r).put (some d) (cM q.sz q.n q.aU)).look x = s.look x := fun x aa => by
          rw [B4];exact (cm.qG _ _ _ fun d hd => tF (a3 d hd) aa).trans (by cases x <;> rfl)
        have aE : (((s.over aG).put bk.dst r).put (some d) (cM q.sz q.n q.aU)).n = s.n := by rw [aC.sa, aC.sa]; rfl
        rw [aE, aC.xd, aC.xd];exact GV.BQ ao
      · rw [aC.sa, aC.sa]; exact tq d hd
theorem WN {K : aJ → aC → Prop} {i : Nat} {b : Bool} {e : cm} (hi : ops[i]? = some bn) : ∀ (ff : Nat) (bx : Array Bool) (R : aJ) (s : aC),
      (∀ j bk, ops[j]? = some bk → j ≠ i → bx.getD j true = false → (∀ e ∈ bk.after, Region.binds .any e = true → e.on ≠ i) → waits .any ops 4 j i = false → waits .any ops 8 j i = false → bn.apart ops bk = true ∧ o6 ops bx bn bk s ∧ (kQ bn = true → dL (some hs) bk = false)) →
      Down .any ops bx → i ∈ Region.ready .any ops bx → s.cN → want ops bn s = some b → ri P ops (some hs) R s bn b e → (∀ d, bn.dst = some d → d < s.n) →
      wJ P .any ops hs K ff (bx.setIfInBounds i true) R (e.on bn.dst s) → wJ P .any ops hs K (ff + 1) bx R s := by
  intro ff
  induction ff with
  | zero =>
    intro bx R s _ fQ aq ok hw he hd H;refine ⟨fun h => (by rw [h] at aq; cases aq), fun j ae bk fE => ?_⟩
    by_cases gi : j = i
    · subst gi; rw [hi] at fE; cases fE; exact ⟨b, hw, hd, .inl ⟨e, he, H⟩⟩
    · have := ready_mono ae gi
      rw [H.1] at this;cases this
  | succ ff cw =>
    intro bx R s jt fQ aq ok hw he hd H;refine ⟨fun h => (by rw [h] at aq; cases aq), fun j ae bk fE => ?_⟩
    by_cases gi : j = i
    · subst gi; rw [hi] at fE; cases fE; exact ⟨b, hw, hd, .inl ⟨e, he, H⟩⟩
    · have h1 := H.2 j (ready_mono ae gi) bk fE
      obtain ⟨uX, abF, y4, dc⟩ := mem_ready.1 ae;rw [fE] at y4;cases y4
      have rS : ∀ e ∈ bk.after, Region.binds .any e = true → e.on ≠ i := fun e he ab rR => by
        have h1 := dc e he ab;have aH := (mem_ready.1 aq).1;rw [rR] at h1;rcases iQ i bx.size with aF | aF
        · simp [aF] at aH h1; rw [aH] at h1; cases h1
        · simp [vw aF] at h1
      have rY : ∀ f, waits .any ops f j i = false := fun f => by
        cases rX : waits .any ops f j i with
        | false => rfl
        | true =>
          have h1 := Jd fQ f j i bk fE dc rX;have aH := (mem_ready.1 aq).1;rcases iQ i bx.size with aF | aF
          · simp [aF] at aH h1; rw [aH] at h1; cases h1
          · simp [vw aF] at h1
      have w0 : z7 ops hs bn.dst = true → we bk = false ∧ dL (some hs) bk = false := fun h => by
        unfold z7 at h;simp only [ct, List.mem_range] at h;have h1 := h i (kr.1 hi).1;simp only [hi, beq_self_eq_true, Bool.not_true, Bool.false_or, ct, List.mem_range] at h1;have h2 := h1 j (kr.1 fE).1;simp only [fE, rY 8, Bool.or_false, si, Bool.or_eq_false_iff] at h2;exact h2
      obtain ⟨g1, g2, g3⟩ := jt j bk fE gi uX rS (rY 4) (rY 8);have h2 := WX ok hw he hd g1 g2.sep w0 g3 h1;refine L8 ok (fun az t aiy ap => ?_) h2;obtain ⟨⟨f, dx, rfl⟩, ap⟩ := ap
      have GI : ∀ k ok, ops[k]? = some ok → k ≠ i → (bx.setIfInBounds j true).getD k true = false →
          (∀ e ∈ ok.after, Region.binds .any e = true → e.on ≠ i) → waits .any ops 4 k i = false → waits .any ops 8 k i = false → bn.apart ops ok = true ∧ o6 ops (bx.setIfInBounds j true) bn ok (f.on bk.dst { s with mem := dx }) ∧ (kQ bn = true → dL (some hs) ok = false) := fun k ok af km ie ju CT YG => by
        have tC : bx.getD k true = false := by
          by_cases kK : j = k
          · subst kK; exact uX
          · rwa [getD_set_ne true kK] at ie
        obtain ⟨q1, q2, cg⟩ := jt k ok af km tC ju CT YG;exact ⟨q1, (show o6 ops bx bn ok { s with mem := dx } from q2).on fE uX, cg⟩
      refine cw (bx.setIfInBounds j true) az _ GI (fQ.set ae) (ready_mono aq (Ne.symm gi)) ap.1.2.2.2 ap.1.1 ap.1.2.1 ap.1.2.2.1 ?_;rw [Array.setIfInBounds_comm _ _ gi];exact ap.2
theorem L3 {ro : Option Nat} {K : aJ → aC → Prop} {Q : Exit → Act → World → Prop} (iZ : ∀ az s' a' w', s'.cN → o0 bt bS az s' a' w' → K az s' → Q .normal a' w') : ∀ (ff : Nat) (bx : Array Bool) (R : aJ) (s : aC) (a : Act) (w : World), s.cN → o0 bt bS R s a w →
    wJ P md ops hs K ff bx R s → wpAnyIn (l4 ro) 0 P md ops Q ff bx a w
  | 0, _, _, _, _, _, ok, ax, h => ⟨h.1, iZ _ _ _ _ ok ax h.2⟩
  | ff + 1, bx, R, s, a, w, ok, ax, h => ⟨fun aH => iZ _ _ _ _ ok ax (h.1 aH), fun i hi => by
      obtain ⟨aH, o, ay, _⟩ := mem_ready.1 hi;exact L9 ay ok ax (h.2 i hi o ay) fun az s' a' w' dC cu af => L3 iZ ff _ az s' a' w' dC cu af⟩
theorem yI {K : aJ → aC → Prop} (tw : ∀ o, dL dr o = false) : ∀ (l : List Oper) (R : aJ) (s : aC), cL P ops dr K l R s → ∃ az s', K az s' ∧ ∀ t, (∀ o ∈ l, o.dst ≠ some t) → s'.tmps t = s.tmps t
  | [], R, s, h => ⟨R, s, h, fun _ _ => rfl⟩
  | o :: l, R, s, ⟨b, hw, hd, h⟩ => by
    rcases h with ⟨e, he, dV⟩ | ⟨_, d, f, ij, dw, ar, dV⟩ | ⟨_, _, bl, dw, ar, dV⟩ | ⟨_, _, d, f, i, g, dw, ar, aw, dV⟩ | ⟨_, hm, _⟩ | ⟨_, hm, _⟩
    · obtain ⟨az, s', h1, h2⟩ := yI tw l _ _ dV
      exact ⟨az, s', h1, fun t aD => (h2 t fun fz gF => aD fz (by simp [gF])).trans (cm.xl (aD o (by simp)))⟩
    · obtain ⟨v1, iL⟩ := ar.1.out
      obtain ⟨az, s', h1, h2⟩ := yI tw l _ _ (dV v1 iL);refine ⟨az, s', h1, fun t aD => (h2 t fun fz gF => aD fz (by simp [gF])).trans ?_⟩;have := aD o (by simp);rw [dw] at this;exact cm.xl (e := ⟨aQ v1, none⟩) this
    · obtain ⟨az, s', h1, h2⟩ := yI tw l _ _ dV
      exact ⟨az, s', h1, fun t aD => h2 t fun fz gF => aD fz (by simp [gF])⟩
    · obtain ⟨az, s', h1, h2⟩ := yI tw l _ _ (dV (.bool false) rfl)
      refine ⟨az, s', h1, fun t aD => (h2 t fun fz gF => aD fz (by simp [gF])).trans ?_⟩;have := aD o (by simp);rw [dw] at this;exact cm.xl (e := ⟨cM (g (.bool false)).sz (g (.bool false)).n (g (.bool false)).aU, none⟩) this
    · rw [tw o] at hm; cases hm
    · rw [tw o] at hm; cases hm
def MK (ops : Array Oper) (hs : List Nat) (bx : Array Bool) (i : Nat) : Bool := (List.range ops.size).all fun j => Nat.beq j i || bx.getD j true || match ops[j]? with
  | some bk => !dL (some hs) bk || waits .any ops 8 j i
  | none => true
def zB (ops : Array Oper) (hJ : List (Nat × Nat)) (hs : List Nat) : List Nat → Array Bool → Bool
  | [], bx => (Region.ready .any ops bx).isEmpty
  | k :: ord, bx => (bif (match ops[k]? with | some o => (u3 o && !rB (some hs) o) || dL (some hs) o | none => true) then Region.ready .any ops bx == [k] else (Region.ready .any ops bx).contains k && Region.free .any ops bx k && Dn .any ops hJ bx k && (!(match ops[k]? with | some o => kQ o | none => true) || MK ops hs bx k)) && zB ops hJ hs ord (bx.setIfInBounds k true)
theorem kA.hot {look : Operand → Option aj} {f : Value → aJ} {ij : Value → Prop} (h : kA P R look o f ij) : u3 o = true := by
  cases h with
  | uE i r tt bytes m jh jL news hi ay => simp [u3, ay]
  | copy i r tt t2 m lo hi x y news dd bW ay => simp [u3, ay]
  | new i t n e sz bytes parts vs zs r hi ay => simp [u3, ay]
  | make i t l c e sz bytes x y ox pG vs hi ay => simp [u3, ay]
theorem L2 {K : aJ → aC → Prop} {hJ : List (Nat × Nat)} (MC : hJ = [] ∨ hs = []) : ∀ (ord : List Nat) (l : List Oper) (bx : Array Bool) (R : aJ) (s : aC), l.length = ord.length → (∀ (j : Nat), l[j]? = (ord[j]?).bind (ops[·]?)) → (∀ k ∈ ord, bx.getD k true = false) → (∀ k, k < ops.size → bx.getD k true = false → k ∈ ord) → ord.Nodup → Down .any ops bx → s.cN →
    zB ops hJ hs ord bx = true → cL P ops (some hs) (fun R s => hJ.all (lY s) = true ∧ K R s) l R s → wJ P .any ops hs K l.length bx R s
  | [], [], _, _, _, _, _, _, _, _, _, _, fj, h => ⟨by simpa [zB] using fj, h.2⟩
  | [], _ :: _, _, _, _, hlen, _, _, _, _, _, _, _, _ => by cases hlen
  | _ :: _, [], _, _, _, hlen, _, _, _, _, _, _, _, _ => by cases hlen
  | k :: ord, o :: l, bx, R, s, hlen, ao, ie, GG, gT, fQ, ok, fj, h => by
    have aH : ops[k]? = some o := by simpa using (ao 0).symm
    have rQ := fun tw => yI (dr := some hs) tw _ _ _ h;simp only [zB, aH, dS] at fj;obtain ⟨af, Gj⟩ := fj;rw [List.nodup_cons] at gT;have cq : ∀ q ∈ ord, k ≠ q := fun q al e => gT.1 (by rw [e]; exact al)
    have cw : ∀ az s', s'.cN → k ∈ Region.ready .any ops bx → cL P ops (some hs) (fun R s => hJ.all (lY s) = true ∧ K R s) l az s' → wJ P .any ops hs K l.length (bx.setIfInBounds k true) az s' := fun az s' dC aq a6 => by
      refine L2 MC ord l _ az s' (by simpa using hlen) (fun j => by simpa using ao (j + 1)) (fun q al => by rw [getD_set_ne true (cq q al)]; exact ie q (by simp [al])) (fun q al uZ => ?_) gT.2 (fQ.set aq) dC Gj a6
      by_cases bw : k = q
      · subst bw
        have : k < bx.size := by
          have := ie k (by simp);rcases iQ k bx.size with aF | aF
          · exact aF
          · simp [vw aF] at this
        simp [this] at uZ
      · rw [getD_set_ne true bw] at uZ
        rcases gM.1 (GG q al uZ) with aF | aF
        · exact absurd aF.symm bw
        · exact aF
    cases a6 : ((u3 o && !rB (some hs) o) || dL (some hs) o) with
    | true =>
      rw [a6] at af;simp only [cond_true, beq_iff_eq] at af;have aq : k ∈ Region.ready .any ops bx := by rw [af]; simp
      refine ⟨fun h1 => (by rw [af] at h1; cases h1), fun i hi bn MF => ?_⟩;rw [af] at hi;obtain rfl : i = k := by simpa using hi
      rw [aH] at MF;cases MF;exact L8 ok (fun az s' dC a6 => cw az s' dC aq a6) h
    | false =>
      rw [a6] at af;simp only [cond_false, dS] at af;obtain ⟨⟨⟨aq, ar⟩, hm⟩, y0⟩ := af;rw [Bool.or_eq_false_iff] at a6;have CN : k ∈ Region.ready .any ops bx := by simpa using aq
      obtain ⟨b, hw, hd, h1⟩ := h;rcases h1 with ⟨e, he, dV⟩ | ⟨_, d, f, ij, dw, lM, _⟩ | ⟨_, oe, _⟩ | ⟨_, oe, _⟩ | ⟨_, fS, _⟩ | ⟨_, fS, _⟩
      · have lO : ∀ p ∈ hJ, oC ops bx p.1 = true → oC ops bx p.2 = true → lY s p = true := fun p hp ig jA => by
          have pE : hs = [] := by
            rcases MC with aH | aH
            · rw [aH] at hp; cases hp
            · exact aH
          obtain ⟨az, s', ⟨h1, _⟩, h2⟩ := rQ fun o => by rw [pE]; simp [dL]
          have gY : ∀ t, oC ops bx t = true → ∀ fz ∈ o :: l, fz.dst ≠ some t := fun t aD fz gF => by
            obtain ⟨j, ae⟩ := jZ gF;rw [ao j] at ae;cases al : (k :: ord)[j]? with
            | none => rw [al] at ae; cases ae
            | some q => rw [al] at ae; exact DC aD q fz ae (ie _ (dG al))
          have := ct.1 h1 p hp;unfold lY at this ⊢;rw [h2 p.1 (gY _ ig), h2 p.2 (gY _ jA)] at this;exact this
        refine WN aH l.length bx R s (fun j bk h1 h2 ap aL dk fV => ⟨Region.free_spec aH ar j bk h1 h2 ap aL, N9 aH hm lO j bk h1 h2 ap dk, fun yZ => ?_⟩) fQ CN ok hw he hd ?_
        · rw [yZ] at y0
          simp only [Bool.not_true, Bool.false_or] at y0;unfold MK at y0;simp only [ct, List.mem_range] at y0;have q := y0 j (kr.1 h1).1;simp only [h1, ap, fV, Bool.or_false, qN, si] at q;rcases q with q | q
          · exact absurd (gZ q) h2
          · exact q
        exact cw _ _ (he.ok ok hd) CN dV
      · rw [lM.1.hot, lM.2] at a6; cases a6.1
      · have fS : dL (some hs) o = true := oe
        rw [a6.2] at fS; cases fS
      · cases oe
      · rw [a6.2] at fS; cases fS
      · rw [a6.2] at fS; cases fS
def fq (P : Program) (c : Code) (Q : Exit → aJ → aC → Prop) (R : aJ) (s : aC) : Prop :=
  s.cN → ∀ bt bS a w, o0 bt bS R s a w → j7 P c (fun x a' w' => ∃ az s', s'.cN ∧ o0 bt bS az s' a' w' ∧ Q x az s') a w
def IC (l : List Oper) (ord hs : List Nat) : Bool := ((vn l.toArray ord).isEmpty || hs.isEmpty) && Nat.beq ord.length l.length && zJ ord && (List.range l.length).all (fun i => ord.contains i) && ord.all (fun i => Nat.blt i l.length) && zB l.toArray (vn l.toArray ord) hs ord (Array.replicate l.length false)
variable {Q : Exit → aJ → aC → Prop} {x y c : Code}
theorem lx (ord hs : List Nat) {id : Nat} {l cx : List Oper} (fj : IC l ord hs = true) (hm : P.follows .mixedOrders = true) (ao : getAll l ord = some cx)
    (h : cL P l.toArray (some hs) (fun R s => (vn l.toArray ord).all (lY s) = true ∧ Q .normal R s) cx R s) : fq P (.region id l.toArray true) Q R s := by
  intro ok bt bS a w ax;refine Ra hm fun ro => ?_;unfold IC at fj;simp only [dS, ct, List.mem_range, List.contains_eq_mem, cE] at fj;obtain ⟨⟨⟨⟨⟨uH, n6⟩, b1⟩, b2⟩, ed⟩, dD⟩ := fj;obtain ⟨g1, g2⟩ := Gb _ _ ao;obtain ⟨A, ad, ax⟩ := ax;have hd : er bt bS R s a { w with drawn := w.drawn + 1 } A ad := ax.next (ax.rel.call ((Below.refl _ w).drew))
  refine L3 (K := Q .normal) (hs := hs) (fun az s' a' w' dC cu af => ⟨az, s', dC, cu, af⟩) _ _ R s a _ ok ⟨A, ad, hd⟩ ?_;have nd := Ia _ b1;have hlen : ord.length = l.length := gZ n6;have := L2 (ops := l.toArray) (hs := hs) (by simpa [qN, List.isEmpty_iff] using uH) ord cx (Array.replicate l.length false) R s g1 (by simpa using g2) (fun q al => by have := ed q al; simp [Nat.blt_eq] at this; simp [this]) (fun q al _ => b2 q (by simpa using al)) nd (fun k o af => by exfalso; rcases iQ k l.length with q | q <;> simp [Array.getElem?_replicate, q] at af) ok dD h;rw [g1, hlen] at this;simpa using this
theorem dT (ord : List Nat) {id : Nat} {l cx : List Oper} (fj : IC l ord [] = true) (hm : P.follows .mixedOrders = true) (ao : getAll l ord = some cx)
    (h : cL P l.toArray (some []) (fun R s => (vn l.toArray ord).all (lY s) = true ∧ Q .normal R s) cx R s) : fq P (.region id l.toArray true) Q R s := lx ord [] fj hm ao h
theorem L7 {ro : Option Nat} {K : aJ → aC → Prop} {Q : Exit → Act → World → Prop} (iZ : ∀ az s' a' w', s'.cN → o0 bt bS az s' a' w' → K az s' → Q .normal a' w') : ∀ (l : List Oper) (k : Nat) (R : aJ) (s : aC) (a : Act) (w : World), (∀ (j : Nat), l[j]? = ops[k + j]?) → s.cN → o0 bt bS R s a w →
    cL P ops dr K l R s → wpOpsIn (l4 ro) 0 P ops Q ((List.range l.length).map (k + ·)) a w
  | [], _, _, _, _, _, _, ok, ax, h => iZ _ _ _ _ ok ax h
  | o :: l, k, R, s, a, w, ao, ok, ax, h => by
    have aH : ops[k]? = some o := by simpa using (ao 0).symm
    have e : (List.range (o :: l).length).map (k + ·) = k :: (List.range l.length).map (k + 1 + ·) := by
      rw [lr, List.range_succ_eq_map, kU, List.map_map];congr 1;apply oP;intro j _;simp [Nat.add_assoc, Nat.add_comm 1 j]
    rw [e, wpOpsIn_cons];refine L9 aH ok ax h fun az s' a' w' dC cu af => L7 iZ l (k + 1) az s' a' w' (fun j => by have := ao (j + 1); simpa [Nat.add_assoc, Nat.add_comm 1 j] using this) dC cu af
theorem a8 {id : Nat} {l : List Oper} (h : cL P l.toArray none (Q .normal) l R s) : fq P (.region id l.toArray false) Q R s := by
  intro ok bt bS a w ax;refine Q9 fun ro => ?_;have := L7 (ro := ro) (ops := l.toArray) (K := Q .normal) (Q := fun e a' w' => ∃ az s', s'.cN ∧ o0 bt bS az s' a' w' ∧ Q e az s') (fun az s' a' w' dC cu af => ⟨az, s', dC, cu, af⟩) l 0 R s a w (by simp) ok ax h;simpa using this
def Af (next : aJ → aC → Prop) (Q : Exit → aJ → aC → Prop) : Exit → aJ → aC → Prop
  | .normal, R, s => next R s
  | e, R, s => Q e R s
def xv (id : Nat) (Q : Exit → aJ → aC → Prop) : Exit → aJ → aC → Prop
  | .exit pF, R, s => bif Nat.beq pF id then Q .normal R s else Q (.exit pF) R s
  | e, R, s => Q e R s
theorem bd (h : fq P x (Af (fun R s => fq P y Q R s) Q) R s) : fq P (.seq x y) Q R s := by
  intro ok bt bS a w cK;refine Rc (sG (h ok bt bS a w cK) ?_);rintro x a' w' ⟨az, s', dC, l9, al⟩;cases x <;> first | exact al dC bt bS a' w' l9 | exact ⟨az, s', dC, l9, al⟩
theorem dm (h : Q .normal R s) : fq P .skip Q R s := fun ok bt bS a w ax => Rd ⟨R, s, ok, ax, h⟩
theorem kZ {id : Nat} (h : Q (.exit id) R s) : fq P (.exit id) Q R s := fun ok bt bS a w ax => Q7 ⟨R, s, ok, ax, h⟩
theorem dA (h : Q .ret R s) : fq P .ret Q R s := fun ok bt bS a w ax => Rb ⟨R, s, ok, ax, h⟩
theorem fZ {id : Nat} (h : fq P x (xv id Q) R s) : fq P (.block id x) Q R s := by
  intro ok bt bS a w cK;refine Q5 (sG (h ok bt bS a w cK) ?_);rintro x a' w' ⟨az, s', dC, l9, al⟩;cases x with
  | exit pF =>
    simp only [Exit.inBlock];simp only [xv] at al;cases ab : Nat.beq pF id with
    | true => rw [ab] at al; rw [if_pos (gZ ab)]; exact ⟨az, s', dC, l9, al⟩
    | false =>
      rw [ab] at al;have : pF ≠ id := fun e => by subst e; rw [Nat.beq_refl] at ab; cases ab
      rw [if_neg this]; exact ⟨az, s', dC, l9, al⟩
  | _ => exact ⟨az, s', dC, l9, al⟩
theorem Qr {c : Operand} {b : Bool} (ak : s.look c = some (bE b)) (h1 : b = true → fq P x Q R s) (aH : b = false → fq P y Q R s) : fq P (.cond c x y) Q R s := by
  rintro ok bt bS a w ⟨A, ad, ax⟩;have hv : a.eval c = .bool b := (ax.rel.look ak).1;refine Q6 hv ?_;cases b with
  | true => exact h1 rfl ok bt bS a w ⟨A, ad, ax⟩
  | false => exact aH rfl ok bt bS a w ⟨A, ad, ax⟩
theorem eu {c : Operand} {b : Bool} (ak : s.look c = some (bE b)) (ab : b = true) (h1 : fq P x Q R s) : fq P (.cond c x y) Q R s := Qr ak (fun _ => h1) fun e => by rw [ab] at e; cases e
theorem c8 {c : Operand} {b : Bool} (ak : s.look c = some (bE b)) (ab : b = false) (aH : fq P y Q R s) : fq P (.cond c x y) Q R s := Qr ak (fun e => by rw [ab] at e; cases e) fun _ => aH
theorem mx (N : Nat) (I : Nat → aJ → List (Nat × aj) → List (Nat × List AC) → Prop) (k : Nat) (R0 : aJ) (aS : List (Nat × aj)) (bF : List (Nat × List AC)) (br : I k R0 aS bF) (ao : bM R0 R) (aE : N = s.n) (aD : n3 s.tmps aS) (hm : n3 s.mem bF) (ee : okB aS bF = true)
    (round : ∀ k R aS bF, I k R aS bF → okB aS bF = true → fq P x (Af (fun az s' => ∃ k' Bg oT oz, k' < k ∧ I k' Bg oT oz ∧ bM Bg az ∧ N = s'.n ∧ n3 s'.tmps oT ∧ n3 s'.mem oz ∧ okB oT oz = true) Q) R (tI N aS bF)) : fq P (.loop x) Q R s := by
  rintro ok bt bS a w ⟨A, ad, ax⟩;refine Q8 (fun k a w => ∃ R aS bF, I k R aS bF ∧ okB aS bF = true ∧ o0 bt bS R (tI N aS bF) a w) (n := k) ⟨R0, aS, bF, br, ee, A, ad, (ax.le ao).NM (Dp aE aD hm)⟩ ?_;rintro k a w ⟨R, aS, bF, br, ok, cK⟩;refine sG (round k R aS bF br ok (HU ok) bt bS a w cK) ?_;rintro x a' w' ⟨az, s', dC, ⟨ei, bg, l9⟩, al⟩;cases x with
  | normal =>
    obtain ⟨k', Bg, oT, oz, h1, h2, ap, aL, dk, fV, jo⟩ := al;exact ⟨k', h1, Bg, oT, oz, h2, jo, ei, bg, (l9.le ap).NM (Dp aL dk fV)⟩
  | _ => exact ⟨az, s', dC, ⟨ei, bg, l9⟩, al⟩
theorem sT {Q : Exit → aC → Prop} (h : fq P c (fun x az s' => Q x s') fW s) : fp P c Q s := by
  intro ok B A ad a w ax;have cK : er B A fW s a w A ad := ⟨ax.up, fun _ h => h, ax.hot fun b h => ax.up b (kS ax.below.size h), fun k cs af => (ax.dx k cs af).choose_spec.choose_spec.2.2, ax.below, fun i r hi => (by cases hi), fun i j r q hi => (by cases hi), fun i r g hi => (by cases hi), ax.jT⟩;refine sG (h ok B A a w ⟨A, ad, cK⟩) ?_;rintro x a' w' ⟨az, s', dC, ⟨kx, eQ, h1⟩, al⟩;exact ⟨s', eQ, dC, h1.rel.yb (fun b ab _ => ⟨h1.sub b ab, rfl⟩) (fun k cs af => ⟨rfl, h1.oy k cs af⟩) h1.below ax.up h1.jT, al⟩
theorem nQ (i e sz : Nat) (hi : R i = none) (h : fq P c Q (bQ R i ⟨e, sz, .slice none 0 0, 0, []⟩) s) (bW : 0 < sz := by decide) : fq P c Q R s := by
  rintro ok bt bS a w ⟨A, ad, ax⟩;have ju : ∀ g, ¬ (⟨e, sz, .slice none 0 0, 0, []⟩ : bP).own g := fun g aw => by have := bP.oE aw bW; cases this
  refine h ok bt bS a w ⟨A, ad, ax.up, ax.sub, ax.rel, ax.oy, ax.below, fun j r ae => ?_, fun j k r q ae af kK g aw => ?_, fun j r g ae aw => ?_, ax.jT⟩
  · by_cases bw : j = i
    · subst bw
      rw [cr] at ae;cases ae;exact ⟨.inl ⟨bW, [], World.ownsRow_nil w 0 e sz, rfl, fun i x v aa => by simp at aa⟩, fun y ah => (by cases ah), fun g aw => absurd aw (ju g)⟩
    · rw [cl _ _ bw] at ae; exact ax.rows j r ae
  · by_cases aI : j = i
    · subst aI; rw [cr] at ae; cases ae; exact absurd aw (ju g)
    · rw [cl _ _ aI] at ae
      by_cases aO : k = i
      · subst aO; rw [cr] at af; cases af; exact ju g
      · rw [cl _ _ aO] at af; exact ax.apart j k r q ae af kK g aw
  · by_cases aI : j = i
    · subst aI; rw [cr] at ae; cases ae; exact absurd aw (ju g)
    · rw [cl _ _ aI] at ae; exact ax.hot j r g ae aw
theorem Ef (i d : Nat) (r : bP) (hi : R i = some r) (hd : s.tmps d = some (aQ r.v)) (h : fq P c Q (fun j => if j = i then none else R j) (s.put (some d) (cM r.sz r.n r.aU))) (bW : 0 < r.sz := by first | decide | exact jd _) : fq P c Q R s := by
  rintro ok bt bS a w ⟨A, ad, ax⟩
  have fQ : d < s.n := by
    obtain ⟨v, h1, _⟩ := ax.rel.gO d _ hd;rw [← ax.rel.size];exact (kr.1 h1).1
  obtain ⟨ei, Co⟩ := ax.uJ i d r hi bW hd fQ;exact h (ok.put fun j ae => absurd ae (ll _ j)) bt bS a w ⟨ei, ad, Co⟩
theorem aN {K : aJ → aC → Prop} {rest : List Oper} (aD : qB dr s.look o = true) (h : bi P ops (fun s' => cL P ops dr K rest R s') [o] s) : cL P ops dr K (o :: rest) R s := by
  obtain ⟨b, hw, e, he, hd, af⟩ := h;exact ⟨b, hw, hd, .inl ⟨e, .kE b e he aD, af⟩⟩
theorem aY {K : aJ → aC → Prop} (h : K R s) : cL P ops dr K [] R s := h
theorem ey {K : aJ → aC → Prop} {hJ : List (Nat × Nat)} (hs : hJ.all (lY s) = true) (h : K R s) : cL P ops dr (fun R s => hJ.all (lY s) = true ∧ K R s) [] R s := ⟨hs, h⟩
variable {d ty : Nat} {pos : String} {after : Array Edge} {guard : Option (Nat × Bool)} {K : aJ → aC → Prop} {rest : List Oper}
theorem zf {op : Op} {av : aj} (hw : want ops ⟨some d, op, ty, pos, after, guard⟩ s = some true) (al : kz P R s.look ⟨some d, op, ty, pos, after, guard⟩ av) (ak : av.bb = true) (aq : tZ ops dr (some d) = true) (hd : Nat.blt d s.n = true) (h : cL P ops dr K rest R (s.put (some d) av)) : cL P ops dr K (⟨some d, op, ty, pos, after, guard⟩ :: rest) R s :=
  ⟨true, hw, kG hd, .inl ⟨⟨av, none⟩, .read av al (aj.dy ak) aq, h⟩⟩
theorem nA {x : Operand} {t z : Nat} {r : bP} (i : Nat) [S : h5 P t z] (hi : R i = some r) (hw : want ops ⟨some d, .call ⟨.builtin .len, #[x], #[t]⟩, ty, pos, after, guard⟩ s = some true) (aa : s.look x = some (aQ r.v)) (bW : Nat.blt 0 r.sz = true) (aq : tZ ops dr (some d) = true) (hd : Nat.blt d s.n = true) (h : cL P ops dr K rest R (s.put (some d) (aT r.n))) : cL P ops dr K (⟨some d, .call ⟨.builtin .len, #[x], #[t]⟩, ty, pos, after, guard⟩ :: rest) R s :=
  zf hw (.len i r t z x hi (by simpa [Nat.blt_eq] using bW) rfl aa S.h) rfl aq hd h
theorem jy {x y : Operand} {t z : Nat} {r : bP} {gG : IntKind} {j : Int} (i : Nat) [S : h5 P t z] (hi : R i = some r) (hw : want ops ⟨some d, .indexAddr t x y, ty, pos, after, guard⟩ s = some true) (aa : s.look x = some (aQ r.v)) (ah : s.look y = some (aQ (.int gG j))) (aH : 0 ≤ j) (h1 : j < r.n) (aZ : z = r.sz) (aq : tZ ops dr (some d) = true) (hd : Nat.blt d s.n = true) (h : cL P ops dr K rest R (s.put (some d) (aQ (jg r.v (j.toNat * z))))) : cL P ops dr K (⟨some d, .indexAddr t x y, ty, pos, after, guard⟩ :: rest) R s := by
  subst aZ;exact zf hw (.idx i r t x y gG j hi rfl aa ah aH h1 S.h) rfl aq hd h
theorem nB {x : Operand} {lt n off : Nat} {r : bP} {zs : List AC} (i : Nat) [T : fO P lt true n] (hi : R i = some r) (hw : want ops ⟨some d, .load lt x, ty, pos, after, guard⟩ s = some true) (aa : s.look x = some (aQ (jg r.v off))) (aE : 0 < r.n) (aZ : off + n ≤ r.aU.length ∧ (r.aU.drop off).take n = zs) (ak : (aj.w (.agg zs)).bb = true) (aq : tZ ops dr (some d) = true) (hd : Nat.blt d s.n = true) (h : cL P ops dr K rest R (s.put (some d) (.w (.agg zs)))) : cL P ops dr K (⟨some d, .load lt x, ty, pos, after, guard⟩ :: rest) R s :=
  zf hw (.load i r off lt x _ hi aE rfl aa (by
    have dZ := T.h;unfold j5 at dZ;unfold pick;rw [← aZ.2];cases hu : P.underlying lt with
    | none => rw [hu] at dZ; cases dZ
    | some D =>
      cases hT : P.info? lt with
      | none => rw [hu, hT] at dZ; cases D <;> cases dZ
      | some eB =>
        rw [hu, hT] at dZ;cases D <;> simp at dZ <;> (subst dZ; simp [aZ.1]))) ak aq hd h
theorem qx {tt bytes m : Nat} {r : bP} {jh jL : Operand} {news : List AC} (i : Nat) (hi : R i = some r) [T : n0 P tt r.e r.sz bytes] (hw : want ops ⟨some d, .call ⟨.builtin .append, #[jh, jL], #[tt, tt]⟩, ty, pos, after, guard⟩ s = some true) (aa : s.look jh = some (aQ r.v)) (ah : s.look jL = some (cM r.sz m news)) (h1 : r.n + m ≤ maxLen) (h2 : (r.n + m) * bytes ≤ 140737488355328) (ak : news.all AC.bb = true) (hd : Nat.blt d s.n = true)
    (h : ∀ aV, aV.oneCell' = true → cL P ops dr K rest (bQ R i ⟨r.e, r.sz, aV, r.n + m, r.aU ++ news⟩) (s.put (some d) (aQ aV))) (pw : rB dr ⟨some d, .call ⟨.builtin .append, #[jh, jL], #[tt, tt]⟩, ty, pos, after, guard⟩ = false := by exact rfl) : cL P ops dr K (⟨some d, .call ⟨.builtin .append, #[jh, jL], #[tt, tt]⟩, ty, pos, after, guard⟩ :: rest) R s :=
  ⟨true, hw, kG hd, .inr (.inl ⟨rfl, d, _, _, rfl, ⟨.uE i r tt bytes m jh jL news hi rfl T.h aa ah h1 h2 (ct.1 ak), pw⟩, h⟩)⟩
theorem MO {tt bytes m k : Nat} {r : bP} {jh jL : Operand} {news zs : List AC} (i : Nat) (hi : R i = some r) [T : n0 P tt r.e r.sz bytes] (hw : want ops ⟨some d, .call ⟨.builtin .append, #[jh, jL], #[tt, tt]⟩, ty, pos, after, guard⟩ s = some true) (aa : s.look jh = some (aQ r.v)) (ah : s.look jL = some (cM r.sz m news)) (h1 : r.n + m ≤ maxLen) (h2 : (r.n + m) * bytes ≤ 140737488355328) (af : r.n + m = k) (aZ : r.aU ++ news = zs) (ak : news.all AC.bb = true) (hd : Nat.blt d s.n = true)
    (h : cL P ops none K rest (fun j => if j = i then none else R j) (s.put (some d) (cM r.sz k zs))) : cL P ops none K (⟨some d, .call ⟨.builtin .append, #[jh, jL], #[tt, tt]⟩, ty, pos, after, guard⟩ :: rest) R s := by
  subst af aZ;refine ⟨true, hw, kG hd, .inr (.inr (.inr (.inl ⟨rfl, rfl, d, _, i, fun aV => ⟨r.e, r.sz, aV, r.n + m, r.aU ++ news⟩, rfl, .uE i r tt bytes m jh jL news hi rfl T.h aa ah h1 h2 (ct.1 ak), fun aV => ⟨cr _ _ _, rfl, (qS T.h).choose_spec.choose_spec.2.2.2.2.2.2⟩, fun aV hv => ?_⟩)))⟩
  have : (fun j => if j = i then none else bQ R i ⟨r.e, r.sz, aV, r.n + m, r.aU ++ news⟩ j) = fun j => if j = i then none else R j := by
    funext j
    by_cases e : j = i
    · rw [if_pos e, if_pos e]
    · rw [if_neg e, if_neg e, cl _ _ e]
  rw [this];exact h
theorem MS {t e sz bytes : Nat} {vs : List Value} (i : Nat) (hi : R i = none) [T : n0 P t e sz bytes] [Z : o7 P t vs] (hw : want ops ⟨some d, .buildSlice t 0 #[], ty, pos, after, guard⟩ s = some true)
    (h1 : (vs.all fun v => v.oneCell') = true) (hs : Nat.beq vs.length sz = true) (hd : Nat.blt d s.n = true)
    (h : ∀ aV, aV.oneCell' = true → cL P ops dr K rest (bQ R i ⟨e, sz, aV, 0, []⟩) (s.put (some d) (aQ aV))) (pw : rB dr ⟨some d, .buildSlice t 0 #[], ty, pos, after, guard⟩ = false := by exact rfl) : cL P ops dr K (⟨some d, .buildSlice t 0 #[], ty, pos, after, guard⟩ :: rest) R s :=
  ⟨true, hw, kG hd, .inr (.inl ⟨rfl, d, _, _, rfl, ⟨.new i t 0 e sz bytes [] vs [] [] hi rfl T.h Z.h rfl (by simp [hN, qh]) h1 (gZ hs) (by simp) (eF _) (by simp) (fun y ah => by cases ah), pw⟩, h⟩)⟩
theorem zd {t l c' e sz bytes : Nat} {x y : Operand} {ox pG : IntKind} {vs : List Value} (i : Nat) (hi : R i = none) [T : n0 P t e sz bytes] [Z : o7 P t vs] (hw : want ops ⟨some d, .makeSlice t x y, ty, pos, after, guard⟩ s = some true) (aa : s.look x = some (aQ (.int ox l))) (ah : s.look y = some (aQ (.int pG c'))) (ao : l ≤ c')
    (h1 : (vs.all fun v => v.oneCell') = true) (hs : Nat.beq vs.length sz = true) (h2 : bytes * c' ≤ 281474976710656) (ap : c' ≤ maxLen) (hd : Nat.blt d s.n = true)
    (h : ∀ aV, aV.oneCell' = true → cL P ops dr K rest (bQ R i ⟨e, sz, aV, l, hN l sz vs⟩) (s.put (some d) (aQ aV))) (pw : rB dr ⟨some d, .makeSlice t x y, ty, pos, after, guard⟩ = false := by exact rfl) : cL P ops dr K (⟨some d, .makeSlice t x y, ty, pos, after, guard⟩ :: rest) R s :=
  ⟨true, hw, kG hd, .inr (.inl ⟨rfl, d, _, _, rfl, ⟨.make i t l c' e sz bytes x y ox pG vs hi rfl T.h Z.h aa ah ao h1 (gZ hs) h2 ap, pw⟩, h⟩)⟩
theorem Yq {tt t2 m z k : Nat} {r : bP} {x y : Operand} {news zs : List AC} (i : Nat) [S : h5 P tt z] (hi : R i = some r) (hw : want ops ⟨some d, .call ⟨.builtin .copy, #[x, y], #[tt, t2]⟩, ty, pos, after, guard⟩ s = some true) (aa : s.look x = some (aQ r.v)) (ah : s.look y = some (cM z m news)) (aZ : z = r.sz) (bW : Nat.blt 0 r.sz = true) (ak : news.all AC.bb = true) (hd : Nat.blt d s.n = true) (af : Nat.min m r.n = k) (he : eA r.aU 0 (news.take (k * r.sz)) = zs) (pw : rB dr ⟨some d, .call ⟨.builtin .copy, #[x, y], #[tt, t2]⟩, ty, pos, after, guard⟩ = false)
    (h : cL P ops dr K rest (bQ R i ⟨r.e, r.sz, r.v, r.n, zs⟩) (s.put (some d) (aT (k : Int)))) : cL P ops dr K (⟨some d, .call ⟨.builtin .copy, #[x, y], #[tt, t2]⟩, ty, pos, after, guard⟩ :: rest) R s := by
  subst aZ af he;refine ⟨true, hw, kG hd, .inr (.inl ⟨rfl, d, _, _, rfl, ⟨.copy i r tt t2 m 0 r.n x y news hi (by simpa [Nat.blt_eq] using bW) rfl S.h (.inl ⟨aa, rfl, rfl⟩) (.inl ah) (eF _) (dW _) (ct.1 ak), pw⟩, fun aV hv => ?_⟩)⟩;subst hv;simpa using h
theorem MP {tt t2 m z k lo hi : Nat} {u : Value} {r : bP} {x y : Operand} {news zs : List AC} (i : Nat) [S : h5 P tt z] (dd : R i = some r) (hw : want ops ⟨some d, .call ⟨.builtin .copy, #[x, y], #[tt, t2]⟩, ty, pos, after, guard⟩ s = some true) (aa : s.look x = some (aQ u)) (hu : iD r.v r.sz lo hi u) (ah : s.look y = some (cM z m news)) (aZ : z = r.sz) (bW : Nat.blt 0 r.sz = true) (h1 : lo ≤ hi) (h2 : hi ≤ r.n) (ak : news.all AC.bb = true) (hd : Nat.blt d s.n = true) (af : Nat.min m (hi - lo) = k) (he : eA r.aU (lo * r.sz) (news.take (k * r.sz)) = zs) (pw : rB dr ⟨some d, .call ⟨.builtin .copy, #[x, y], #[tt, t2]⟩, ty, pos, after, guard⟩ = false)
    (h : cL P ops dr K rest (bQ R i ⟨r.e, r.sz, r.v, r.n, zs⟩) (s.put (some d) (aT (k : Int)))) : cL P ops dr K (⟨some d, .call ⟨.builtin .copy, #[x, y], #[tt, t2]⟩, ty, pos, after, guard⟩ :: rest) R s := by
  subst aZ af he;exact ⟨true, hw, kG hd, .inr (.inl ⟨rfl, d, _, _, rfl, ⟨.copy i r tt t2 m lo hi x y news dd (by simpa [Nat.blt_eq] using bW) rfl S.h (.inr (.inr ⟨u, aa, hu⟩)) (.inl ah) h1 h2 (ct.1 ak), pw⟩, fun aV hv => by subst hv; exact h⟩)⟩
theorem Yr {tt t2 m z k lo hi eg dQ : Nat} {u cH : Value} {r : bP} {x y : Operand} {zs : List AC} (i : Nat) [S : h5 P tt z] (dd : R i = some r) (hw : want ops ⟨some d, .call ⟨.builtin .copy, #[x, y], #[tt, t2]⟩, ty, pos, after, guard⟩ s = some true) (aa : s.look x = some (aQ u)) (hu : iD r.v r.sz lo hi u) (ah : s.look y = some (aQ cH)) (YB : iD r.v r.sz eg dQ cH) (hm : eg + m = dQ) (bZ : dQ ≤ r.n) (aZ : z = r.sz) (bW : Nat.blt 0 r.sz = true) (h1 : lo ≤ hi) (h2 : hi ≤ r.n) (ak : r.aU.all AC.bb = true) (hd : Nat.blt d s.n = true) (af : Nat.min m (hi - lo) = k) (he : eA r.aU (lo * r.sz) (((r.aU.drop (eg * r.sz)).take (m * r.sz)).take (k * r.sz)) = zs) (pw : rB dr ⟨some d, .call ⟨.builtin .copy, #[x, y], #[tt, t2]⟩, ty, pos, after, guard⟩ = false)
    (h : cL P ops dr K rest (bQ R i ⟨r.e, r.sz, r.v, r.n, zs⟩) (s.put (some d) (aT (k : Int)))) : cL P ops dr K (⟨some d, .call ⟨.builtin .copy, #[x, y], #[tt, t2]⟩, ty, pos, after, guard⟩ :: rest) R s := by
  subst hm aZ af he;exact ⟨true, hw, kG hd, .inr (.inl ⟨rfl, d, _, _, rfl, ⟨.copy i r tt t2 m lo hi x y _ dd (by simpa [Nat.blt_eq] using bW) rfl S.h (.inr (.inr ⟨u, aa, hu⟩)) (.inr ⟨i, r, eg, cH, dd, rfl, ah, YB, bZ, rfl⟩) h1 h2 (fun q al => ct.1 ak q (mW (oN al))), pw⟩, fun aV hv => by subst hv; exact h⟩)⟩
theorem zg {x y : Operand} {st off : Nat} {r : bP} {z : bI} {eB : TypeInfo} (i : Nat) (hi : R i = some r) (hw : want ops ⟨none, .store st x y, ty, pos, after, guard⟩ s = some true) (aa : s.look x = some (aQ (jg r.v off))) (ah : s.look y = some (.w z)) (aE : 0 < r.n) (aD : P.info? st = some eB) (hs : eB.size = z.cells.length) (ab : off + z.cells.length ≤ r.aU.length) (ak : z.cells.all AC.bb = true)
    (h : cL P ops dr K rest (bQ R i ⟨r.e, r.sz, r.v, r.n, eA r.aU off z.cells⟩) s) (jz : QF dr ⟨none, .store st x y, ty, pos, after, guard⟩ = true := by exact rfl) : cL P ops dr K (⟨none, .store st x y, ty, pos, after, guard⟩ :: rest) R s :=
  ⟨true, hw, (fun d hd => by cases hd), .inr (.inr (.inl ⟨rfl, jz, _, rfl, .store i r off st x y z eB hi aE rfl aa ah aD hs ab (ct.1 ak), h⟩))⟩
theorem zc {x : Operand} {lt off : Nat} {r : bP} {c1 : AC} (i : Nat) [T : fO P lt false 1] (hi : R i = some r) (hw : want ops ⟨some d, .load lt x, ty, pos, after, guard⟩ s = some true) (aa : s.look x = some (aQ (jg r.v off))) (aE : 0 < r.n) (aZ : r.aU[off]? = some c1) (ak : (aj.w (.one c1)).bb = true) (aq : tZ ops dr (some d) = true) (hd : Nat.blt d s.n = true) (h : cL P ops dr K rest R (s.put (some d) (.w (.one c1)))) : cL P ops dr K (⟨some d, .load lt x, ty, pos, after, guard⟩ :: rest) R s :=
  zf hw (.load i r off lt x _ hi aE rfl aa (by
    have dZ := T.h;unfold j5 at dZ;unfold pick;cases hu : P.underlying lt with
    | none => rw [hu] at dZ; cases dZ
    | some D =>
      cases hT : P.info? lt with
      | none => rw [hu, hT] at dZ; cases D <;> simp at dZ <;> simp [aZ]
      | some eB =>
        rw [hu, hT] at dZ;cases D <;> simp at dZ <;> simp [aZ])) ak aq hd h
theorem aX {next : aJ → aC → Prop} (h : next R s) : Af next Q .normal R s := h
theorem kY {next : aJ → aC → Prop} {i : Nat} (h : Q (.exit i) R s) : Af next Q (.exit i) R s := h
theorem kt {next : aJ → aC → Prop} (h : Q .ret R s) : Af next Q .ret R s := h
theorem ls {i : Nat} (h : Q .normal R s) : xv i Q .normal R s := h
theorem adz {i : Nat} (h : Q .ret R s) : xv i Q .ret R s := h
theorem kX {i : Nat} (h : Q .normal R s) : xv i Q (.exit i) R s := by simp only [xv, Nat.beq_refl, cond_true]; exact h
end
section
variable {P : Program} {s : aC} {ops : Array Oper} {K : aC → Prop} {rest : List Oper} {ty : Nat} {pos : String} {after : Array Edge} {guard : Option (Nat × Bool)} {d : Nat}
theorem Tp {fn : Fn} {xs : List Operand} {cs : List AC} (hw : want ops ⟨some d, .makeFunc fn #[] xs.toArray, ty, pos, after, guard⟩ s = some true) (aa : xs.map s.look = cs.map fun x => some (.w (.one x))) (ak : cs.all AC.bb = true) (hd : Nat.blt d s.n = true) (h : bi P ops K rest (s.put (some d) (.w (.one (.p (oX fn cs)))))) : bi P ops K (⟨some d, .makeFunc fn #[] xs.toArray, ty, pos, after, guard⟩ :: rest) s := by
 have hlen : xs.length = cs.length := by have := congrArg List.length aa; simpa using this
 have gq : ∀ (i : Nat) (z : Operand), xs[i]? = some z → ∃ x, cs[i]? = some x ∧ s.look z = some (.w (.one x)) := fun i z aZ => by
  have h1 : (xs.map s.look)[i]? = some (s.look z) := by rw [eG, aZ]; rfl
  rw [aa, eG] at h1;cases al : cs[i]? with
  | none => rw [al] at h1; cases h1
  | some x => rw [al] at h1; exact ⟨x, rfl, (ms h1).symm⟩
 refine fP (av := .w (.one (.p (oX fn cs)))) hw ⟨fun _ _ h => (by cases h), fun z aZ => ?_, fun U ad W env he => ⟨.func fn #[] (xs.map env).toArray, ?_, ?_⟩, fun j ae => absurd ae (ll _ j)⟩ hd h
 ·simp [Op.operands] at aZ;obtain ⟨i, hi⟩ := jZ aZ;obtain ⟨x, _, h2⟩ := gq i z hi;exact ⟨_, h2⟩
 ·simp [execOp, Instr.makeFunc]
 ·have nv : ∀ (i : Nat) (x : AC) (u : Value), cs[i]? = some x → (xs.map env)[i]? = some u → gn U ad W x u := fun i x u w7 hu => by
   rw [eG] at hu;cases aZ : xs[i]? with
   | none => rw [aZ] at hu; cases hu
   | some z =>
    rw [aZ] at hu;cases hu;obtain ⟨x', h1, h2⟩ := gq i z aZ;rw [w7] at h1;cases h1;exact he z (by simp [Op.operands]; exact dG aZ) _ h2
  have cO : ∀ x ∈ cs, ∀ j, ¬ x.owns j := fun x aa j => AC.dy (ct.1 ak x aa) j;refine ⟨⟨xs.map env, rfl, ⟨by simpa using hlen.symm, fun i x u w7 hu => ?_⟩, cO⟩, ?_⟩
  ·have h1 := nv i x u w7 hu;cases x with
   | c y => exact h1
   | own k o => exact absurd rfl (cO _ (dG w7) k)
   | p R => exact ⟨h1.1, fun _ _ => trivial⟩
  ·rintro b ⟨vJ, e, i, x, u, w7, hu, ab⟩;have bw : xs.map env = vJ := by simpa using e
   subst bw;have h1 := nv i x u w7 hu;cases x with
   | c y => cases ab
   | own k o => cases ab
   | p R => exact h1.2 b ab
end
def tf (s : aC) (k j : Nat) : Bool := !(Nat.beq j k) && (match s.mem j with | some ds => ds.all AC.bb | none => false)
def Cg (s : aC) (k : Nat) (cs : List AC) : Option aj → Option aj
 | some (.w (.one (.own j off))) => bif Nat.beq j k then some (.w (.one (.p (EX (cs.drop off))))) else bif tf s k j then some (.w (.one (.own j off))) else none
 | some av => bif av.bb then some av else none
 | none => none
def oa (s : aC) (k : Nat) (cs : List AC) : aC := ⟨s.n, fun t => Cg s k cs (s.tmps t), fun j => bif tf s k j then s.mem j else none⟩
theorem F8 {s : aC} {k j : Nat} (h : tf s k j = true) : j ≠ k ∧ ∃ ds, s.mem j = some ds ∧ ds.all AC.bb = true := by
 unfold tf at h;simp only [dS, si] at h;refine ⟨fun e => by subst e; simp at h, ?_⟩;cases hm : s.mem j with
 | none => rw [hm] at h; simp at h
 | some ds => rw [hm] at h; exact ⟨ds, rfl, h.2⟩
theorem V8 {s : aC} {k : Nat} {cs : List AC} (ok : s.cN) : (oa s k cs).cN := by
 refine ⟨fun t av j aD ae => ?_, fun i ds x j hi aa ae => ?_⟩
 ·have key : ∀ o, Cg s k cs o = some av → ∃ ds, (oa s k cs).mem j = some ds := by
   intro o ay;unfold Cg at ay
   split at ay
   ·rename_i eP off;cases ab : Nat.beq eP k with
    | true => rw [ab] at ay; simp at ay; subst ay; obtain ⟨y, ah, ae⟩ := ae; simp [bI.cells] at ah; subst ah; cases ae
    | false =>
     rw [ab] at ay;cases af : tf s k eP with
     | false => rw [af] at ay; simp at ay
     | true =>
      rw [af] at ay;simp at ay;subst ay;obtain ⟨y, ah, ae⟩ := ae;simp [bI.cells] at ah;subst ah;have e : j = eP := ae;subst e;obtain ⟨_, ds, hm, _⟩ := F8 af;exact ⟨ds, by simp only [oa, af, cond_true]; exact hm⟩
   ·rename_i Kq _;cases ak : Kq.bb with
    | false => rw [ak] at ay; simp at ay
    | true => rw [ak] at ay; simp at ay; subst ay; exact absurd ae (aj.dy ak j)
   ·cases ay
  exact key _ aD
 ·simp only [oa] at hi;cases af : tf s k i with
  | false => rw [af] at hi; simp at hi
  | true =>
   rw [af] at hi;simp at hi;obtain ⟨_, Ve, hm, ak⟩ := F8 af;rw [hm] at hi;cases hi;exact absurd ae (AC.dy (ct.1 ak x aa) j)
theorem V9 {s : aC} {k : Nat} {cs : List AC} {W : World} {A : Nat → Prop} {ad : Nat → Nat} {a : Act} {w : World} (af : s.mem k = some cs) (cO : cs.all AC.bb = true) (ax : Rel (eX.all W) A s ad a w) : Rel (eX.all W) A (oa s k cs) ad a w := by
 have pz : ∀ j ds, (oa s k cs).mem j = some ds → j ≠ k ∧ s.mem j = some ds := fun j ds ae => by
  simp only [oa] at ae;cases ab : tf s k j with
  | false => rw [ab] at ae; simp at ae
  | true => rw [ab] at ae; simp at ae; exact ⟨(F8 ab).1, ae⟩
 have jt : ∀ b, s.free A ad b → (oa s k cs).free A ad b := fun b ab => ⟨ab.1, fun j ds ae => ab.2 j ds (pz j ds ae).2⟩;obtain ⟨vs, aiO, g1, g2, g3⟩ := ax.dx k cs af
 have WM : A (ad k) := ax.up _ (by
  have : ¬ ad k < W.heap.size := g3;show W.heap.size ≤ ad k;omega)
 have bj : ad k < w.heap.size := ax.lt af
 have XG : (oa s k cs).free A ad (ad k) := ⟨WM, fun j ds ae e => by
  obtain ⟨h1, h2⟩ := pz j ds ae;exact h1 (ax.inj j k _ _ h2 af e)⟩
 have rN : ∀ y ∈ cs, y.bb = true := ct.1 cO;refine ⟨ax.pH, ax.size, fun t av aD => ?_, fun j ds ae => ?_, fun j eP c1 c2 h1 h2 e => ax.inj j eP _ _ (pz j c1 h1).2 (pz eP c2 h2).2 e, ax.below, ax.up, ax.jT⟩
 ·simp only [oa] at aD;cases ay : s.tmps t with
  | none => rw [ay] at aD; cases aD
  | some o =>
   rw [ay] at aD;obtain ⟨v, h1, h2⟩ := ax.gO t o ay;refine ⟨v, h1, ?_⟩;have ap : c9 ((oa s k cs).free A ad) ad w o v := h2.map (fun b ab _ => ⟨jt b ab, rfl⟩) fun _ _ => rfl;unfold Cg at aD
   split at aD
   ·rename_i eP off rR;cases rR;cases ab : Nat.beq eP k with
    | true =>
     rw [ab] at aD;simp at aD;subst aD;have e : eP = k := gZ ab;subst e;have hv : v = .pointer (some ⟨ad eP, off, none⟩) := h2;subst hv
     have qn : ky w ⟨ad eP, off, none⟩ (cs.drop off) (vs.drop off) := by
      refine ⟨bj, ⟨by simp [g2.1], fun i x u aa hu => ?_⟩, fun i u hu => ?_, fun y ah => rN y (mW ah)⟩
      ·rw [gl] at aa hu;have dk := g2.2 _ x u aa hu;have Xk := rN x (dG aa);cases x with
       | c y => exact dk
       | own k o => cases Xk
       | p S => exact ⟨dk.1, fun _ _ => trivial⟩
      ·rw [gl] at hu;have ki : (⟨ad eP, off, none⟩ : Addr).add i = ⟨ad eP, off + i, none⟩ := by unfold Addr.add; split <;> simp_all
       rw [ki];simp only [World.cell?, g1];simpa using hu
     refine ⟨⟨_, _, rfl, qn⟩, ?_⟩;rintro b ⟨a', e, ar⟩;cases e;rcases ar with rfl | ⟨i, y, u, ah, hu, gh⟩
     ·exact XG
     ·rw [gl] at ah;have Mz : off + i < vs.length := by rw [← g2.1]; exact (bX.1 ah).1
      have fV := qn.at_ i vs[off + i] (by rw [gl]; exact cp Mz);rw [hu] at fV;cases fV;have jo := g2.2 _ y _ ah (cp Mz);cases y with
      | c y => cases gh
      | own k o => cases gh
      | p S => exact jt b (jo.2 b gh)
    | false =>
     rw [ab] at aD;cases og : tf s k eP with
     | false => rw [og] at aD; simp at aD
     | true => rw [og] at aD; simp at aD; subst aD; exact ap
   ·rename_i Kq rR;cases rR;cases ak : aj.bb o with
    | false => rw [ak] at aD; simp at aD
    | true => rw [ak] at aD; simp at aD; subst aD; exact ap
   ·rename_i rR; cases rR
 ·obtain ⟨h1, h2⟩ := pz j ds ae;obtain ⟨us, afe, q1, q2, cg⟩ := ax.dx j ds h2;exact ⟨us, afe, q1, q2.map (fun b ab _ => ⟨jt b ab, rfl⟩) fun _ _ _ _ => rfl, cg⟩
section
variable {P : Program} {x y : Code} {Q : Exit → aC → Prop} {s : aC}
theorem Fp (h : fp P x Q s) : sI P x Q s := fun ok W A ad a w ax => (h ok (eX.all W) A ad a w ax).top
theorem Kv (h : sI P x (rv (fun s' => sI P y Q s') Q) s) : sI P (.seq x y) Q s := by
 intro ok W A ad a w ax;refine wp_seq (wp_mono (h ok W A ad a w ax) ?_);rintro e a' w' ⟨s', bg, dC, cu, al⟩;cases e <;> first | exact al dC W A bg a' w' cu | exact ⟨s', bg, dC, cu, al⟩
theorem Ku (k : Nat) (cs : List AC) (af : s.mem k = some cs) (cO : cs.all AC.bb = true) (h : sI P x Q (oa s k cs)) : sI P x Q s := by
 intro ok W A ad a w ax;exact h (V8 ok) W A ad a w (V9 af cO ax)
end
def Sv (z n : Nat) (xs : List AC) : e2 where
 holds w v := (cB z n xs).holds w v ∧ ∃ A, v = .slice A n n
 lc := (cB z n xs).lc
 frame w w' v := by
  rintro ⟨h1, h2⟩ ar;have := (cB z n xs).frame w w' v h1 ar;exact ⟨⟨this.1, h2⟩, this.2⟩
 ik w v b := by
  rintro ⟨h1, h2⟩ ar;exact (cB z n xs).ik w v b h1 ar
 cell w v := by
  rintro ⟨h1, h2⟩;exact (cB z n xs).cell w v h1
theorem kO {n : Nat} (h : n ≤ 1000000) : n ≤ maxLen := kS h (by decide)
abbrev EC (z n : Nat) (xs : List AC) : aj := .w (.one (.p (Sv z n xs)))
section
variable {P : Program} {U : Nat → Prop} {ad : Nat → Nat} {W bo : World}
theorem Ek {z n l h c c' : Nat} {xs : List AC} {A : Option Addr} (aa : c9 U ad W (cM z n xs) (.slice A n c)) (h1 : l ≤ h) (h2 : h ≤ n) (ap : h ≤ c') : c9 U ad W (cM z (h - l) ((xs.drop (l * z)).take ((h - l) * z))) (sliced A l h c' z) := by
 obtain ⟨⟨ei, k7, aI, ak, ao, dU⟩, dz⟩ := aa;cases aI;have hm : (h - l) * z ≤ n * z - l * z := by rw [← Nat.sub_mul]; exact j1 _ (by omega)
 refine ⟨⟨if c' = l then A else A.map (·.add (l * z)), c' - l, rfl, by omega, by rw [eh, hZ, ao]; exact pM hm, fun aE => ?_⟩, ?_⟩
 ·obtain ⟨a, vs, rfl, ev⟩ := dU (by omega);have cq : ¬ c' = l := by omega
  rw [if_neg cq];exact ⟨a.add (l * z), _, rfl, ev.sub (l * z) ((h - l) * z)⟩
 ·rintro b ⟨c2, a', q, aE, ar⟩;obtain ⟨a, vs, rfl, ev⟩ := dU (by omega);have cq : ¬ c' = l := by omega
  unfold sliced at q;rw [if_neg cq] at q;simp at q;obtain ⟨rfl, _⟩ := q;exact dz b ⟨c, a, rfl, by omega, mJ.sub (off := l * z) (n := (h - l) * z) ar⟩
theorem LQ {z n c : Nat} {xs : List AC} {vs : List Value} {cur : Array Value} {e : TypeId} (ao : bV U id W xs vs) (cO : ∀ y ∈ xs, y.bb = true) (hlen : xs.length = n * z) (eM : n ≤ c) (hold : ∀ b, b < W.heap.size → bo.heap[b]? = W.heap[b]?) (pA : bo.heap[W.heap.size]? = some (.cells cur e (0, 0))) (Xt : cur.toList.take (n * z) = vs) : c9 (fun b => U b ∨ W.heap.size ≤ b) ad bo (cM z n xs) (.slice (some ⟨W.heap.size, 0, none⟩) n c) := by
 have bj : W.heap.size < bo.heap.size := (kr.1 pA).1;have hD : bV U id bo xs vs := ao.map (fun b ab bj => ⟨ab, hold b bj⟩) (fun _ _ _ _ => rfl)
 have gq : ∀ (j : Nat) v, vs[j]? = some v → bo.cell? ((⟨W.heap.size, 0, none⟩ : Addr).add j) = some v := fun j v hv => by
  have ki : (⟨W.heap.size, 0, none⟩ : Addr).add j = ⟨W.heap.size, j, none⟩ := by unfold Addr.add; split <;> simp_all
  rw [ki, cell_of_row bo _ j cur e (0, 0) pA];rw [← Xt, List.getElem?_take] at hv
  split at hv
  ·simpa using hv
  ·cases hv
 have qn : ky bo ⟨W.heap.size, 0, none⟩ xs vs := ⟨bj, hD.map (fun b _ _ => ⟨trivial, rfl⟩) (fun _ _ _ _ => rfl), gq, cO⟩;refine ⟨⟨some ⟨W.heap.size, 0, none⟩, c, rfl, eM, hlen, fun aE => ⟨_, vs, rfl, qn⟩⟩, ?_⟩;rintro b ⟨c', a', q, aE, ar⟩;cases q;rcases ar with rfl | ⟨j, y, v, ah, hv, gh⟩
 ·exact .inr (dW _)
 ·have ae : j < vs.length := by rw [← ao.1]; exact (bX.1 ah).1
  have h2 := gq j _ (cp ae);rw [hv] at h2;cases h2;have ap := hD.2 j y _ ah (cp ae);cases y with
  | c u => cases gh
  | own k o => cases gh
  | p S => exact .inl (ap.2 b gh)
theorem ad3 {xs : List AC} {vs : List Value} (h : bV U ad W xs vs) (ak : ∀ y ∈ xs, y.bb = true) : bV U id W xs vs :=
 ⟨h.1, fun i x v aa hv => (h.2 i x v aa hv).map (fun b ab _ => ⟨ab, rfl⟩) fun j ae => absurd ae (AC.dy (ak x (dG aa)) j)⟩
theorem ad2 {xs aU : List AC} {us vs : List Value} (h1 : bV U ad W xs us) (h2 : bV U ad W aU vs) : bV U ad W (xs ++ aU) (us ++ vs) := by
 refine ⟨by rw [cS, cS, h1.1, h2.1], fun i x v aa hv => ?_⟩;rcases iQ i xs.length with bj | lf
 ·rw [fY bj] at aa;rw [fY (by rw [← h1.1]; exact bj)] at hv;exact h1.2 i x v aa hv
 ·rw [gy lf] at aa;rw [gy (by rw [← h1.1]; exact lf), ← h1.1] at hv;exact h2.2 _ x v aa hv
theorem xB {z n : Nat} {xs : List AC} {v : Value} (h : c9 U ad W (cM z n xs) v) : ∃ A c vs, v = .slice A n c ∧ n ≤ c ∧ xs.length = n * z ∧ bV U id W xs vs ∧ (∀ y ∈ xs, y.bb = true) ∧ (∀ b, A = some b → ∀ (j : Nat) u, vs[j]? = some u → W.cell? (b.add j) = some u) ∧ (A = none → n = 0) := by
 rcases vx n with rfl | aE
 ·obtain ⟨⟨A, c, e, ak, ao, dU⟩, dz⟩ := h;have : xs = [] := mv (by rw [ao]; simp);subst this;exact ⟨A, c, [], e, ak, ao, ⟨rfl, fun i x v aa => by simp at aa⟩, fun y ah => (by cases ah), fun b _ j u hu => by simp at hu, fun _ => rfl⟩
 ·have aH := h;obtain ⟨b, c, vs, e, ak, ao, gq, pC⟩ := cB.FB h aE;obtain ⟨⟨A, c', bw, _, _, dU⟩, _⟩ := aH;rw [e] at bw;cases bw;obtain ⟨a, us, ia, ev⟩ := dU aE;exact ⟨some b, c, vs, e, ak, ao, ad3 pC ev.pd, ev.pd, fun bO e => by cases e; exact gq, fun e => by cases e⟩
theorem ad8 {tt e z n m bytes ty : Nat} {xs aU : List AC} {x y : Value} (aD : vy P tt e z bytes = true) (aa : c9 U ad W (EC z n xs) x) (ah : c9 U ad W (cM z m aU) y) (h1 : n + m ≤ maxLen) (h2 : (n + m) * bytes ≤ 140737488355328) :
  ∃ v bo, (Builtin.append_ #[tt, tt] ty #[x, y]).run P W = .ok v bo ∧ c9 (fun b => U b ∨ W.heap.size ≤ b) ad bo (cM z (n + m) (xs ++ aU)) v ∧ Below W.heap.size W bo := by
 obtain ⟨eB, Jh, hu, e4, aZ, hh, kJ, ot, bW⟩ := qS aD;have ko : c9 U ad W (cM z n xs) x := ⟨aa.1.1, aa.2⟩;obtain ⟨bS, Lg⟩ := aa.1.2;obtain ⟨A, c, us, ex, eM, kL, MN, Cu, Xd, jv⟩ := xB ko;rw [Lg] at ex;cases ex;obtain ⟨EJ, K5, vs, rfl, ahn, yW, G9, Ml, Mh, X5⟩ := xB ah;subst Lg;have Gi : n + m ≤ 9223372036854775807 := by simp only [maxLen] at h1; omega
 rcases vx m with rfl | CL
 ·have YO : aU = [] := mv (by rw [yW]; simp);subst YO;refine ⟨.slice bS n n, W, ?_, ?_, Below.refl _ _⟩
  ·cases bS <;> cases EJ <;> simp [Builtin.append_, run_underlying hu, sizeOf, typeInfo, e4, Builtin.lenOf, Builtin.firstCells, storeCells, loadCells, loadCellsFrom]
  ·rw [Nat.add_zero, pJ];exact c9.map ko (fun b ab _ => ⟨.inl ab, rfl⟩) fun _ _ => rfl
 ·obtain ⟨a, rfl⟩ : ∃ a, EJ = some a := by
   cases EJ with
   | none => have := X5 rfl; omega
   | some a => exact ⟨a, rfl⟩
  have mg : vs.length = m * eB.size := by rw [hh, ← G9.1]; exact yW
  have cO : ∀ q ∈ xs ++ aU, q.bb = true := fun q al => by
   rcases kT.1 al with h | h
   ·exact Cu q h
   ·exact Ml q h
  have hlen : (xs ++ aU).length = (n + m) * z := by rw [cS, kL, yW, j0]
  cases bS with
  | none =>
   have y1 : n = 0 := jv rfl;subst y1;have CU : xs = [] := mv (by rw [kL]; simp);subst CU;have aq := run_append_nil (P := P) W tt ty e eB Jh hu e4 aZ a m K5 vs mg (Mh a rfl) CL (by omega) (by rw [kJ]; simp only [jH] at h2; omega);refine ⟨_, _, aq, ?_, (Below.drew (Below.refl _ W)).alloc (dW _) _⟩;have X0 : aU.length = (0 + m) * z := by rw [yW, jH]
   rw [List.nil_append];have dp : 0 + m = m := jH m;rw [dp];refine LQ (vs := vs) (e := e) G9 Ml yW (grownCap_ge _ _ _ _) (fun b ab => by first | exact heap_alloc_old W.drew _ b ab | exact heap_alloc_old W.drew _ ab) (heap_alloc_new W.drew _) ?_;rw [Array.toList_append, List.toList_toArray, z6 (by rw [mg, hh]; exact dW _), h0 (by rw [mg, hh]; exact dW _)]
  | some b =>
   have w4 : us.length = n * eB.size := by rw [hh, ← MN.1]; exact kL
   have aq := run_append_grow (P := P) W tt ty e eB Jh hu e4 aZ b n n us w4 (Xd b rfl) a m K5 vs mg (Mh a rfl) (by omega) (by omega) (growslice_fits (by omega) (by rw [kJ]; exact h2));refine ⟨_, _, aq, ?_, (Below.drew (Below.refl _ W)).alloc (dW _) _⟩;refine LQ (vs := us ++ vs) (e := e) (ad2 MN G9) cO hlen (grownCap_ge _ _ _ _) (fun b ab => by first | exact heap_alloc_old W.drew _ b ab | exact heap_alloc_old W.drew _ ab) (heap_alloc_new W.drew _) ?_;have mL : (us ++ vs).length = (n + m) * z := by rw [cS, w4, mg, hh, j0]
   rw [Array.toList_append, Array.toList_append, List.toList_toArray, List.toList_toArray, z6 (by rw [mL]; exact dW _), h0 (by rw [mL]; exact dW _)]
end
section
variable {P : Program} {s : aC} {ops : Array Oper} {K : aC → Prop} {rest : List Oper} {ty : Nat} {pos : String} {after : Array Edge} {guard : Option (Nat × Bool)} {d : Nat}
theorem S1 {tt e z n m k bytes : Nat} {x y : Operand} {xs aU zs : List AC} [T : n0 P tt e z bytes] (hw : want ops ⟨some d, .call ⟨.builtin .append, #[x, y], #[tt, tt]⟩, ty, pos, after, guard⟩ s = some true) (aa : s.look x = some (EC z n xs)) (ah : s.look y = some (cM z m aU)) (h1 : n + m ≤ maxLen) (h2 : (n + m) * bytes ≤ 140737488355328) (af : n + m = k) (aZ : xs ++ aU = zs) (hd : Nat.blt d s.n = true) (h : bi P ops K rest (s.put (some d) (cM z k zs))) : bi P ops K (⟨some d, .call ⟨.builtin .append, #[x, y], #[tt, tt]⟩, ty, pos, after, guard⟩ :: rest) s := by
 subst af aZ;refine Fh (av := cM z (n + m) (xs ++ aU)) hw ⟨fun q al => ?_, fun j ae => ll _ j ae, fun U ad W env he => ?_⟩ hd h
 ·simp [Op.operands, Call.operands] at al;rcases al with rfl | rfl
  ·exact ⟨_, aa⟩
  ·exact ⟨_, ah⟩
 ·obtain ⟨v, bo, aq, ap, aL⟩ := ad8 (ty := ty) T.h (he x (by simp [Op.operands, Call.operands]) _ aa) (he y (by simp [Op.operands, Call.operands]) _ ah) h1 h2;exact ⟨v, bo, by simp only [execOp, resolve, invoke, builtin, Sem.run_bind, Sem.run_pure, Result.andThen_ok, List.map_toArray, kU, List.map_nil, aq], ap, aL⟩
theorem Ts {t sz e bytes : Nat} [S : h5 P t sz] [T : n0 P t e sz bytes] (hw : want ops ⟨some d, .buildSlice t 0 #[], ty, pos, after, guard⟩ s = some true) (hd : Nat.blt d s.n = true) (h : bi P ops K rest (s.put (some d) (EC sz 0 []))) : bi P ops K (⟨some d, .buildSlice t 0 #[], ty, pos, after, guard⟩ :: rest) s := by
 refine Fh (av := EC sz 0 []) hw ⟨fun q al => ?_, fun j ae => ll _ j ae, fun U ad W env he => ?_⟩ hd h
 ·simp [Op.operands] at al
 ·obtain ⟨eB, Jh, hu, e4, aZ, hh, kJ, ot, bW⟩ := qS T.h;refine ⟨.slice (some ⟨W.heap.size, 0, none⟩) 0 0, W.alloc (.cells #[] e), ?_, ⟨⟨⟨_, 0, rfl, dW _, by simp, fun h => absurd h (Nat.lt_irrefl _)⟩, _, rfl⟩, fun b ⟨c, a, q, aE, _⟩ => absurd aE (Nat.lt_irrefl _)⟩, (Below.refl _ _).alloc (dW _) _⟩;simp [execOp, Instr.buildSlice, Sem.run_bind, run_underlying hu, hq e4, Instr.fill, newRow, newObj, Sem.run, Array.range_zero']
theorem Km {tt z n m : Nat} {x y : Operand} {l : Int} {xs aU : List AC} [S : h5 P tt z] (hw : want ops ⟨some d, .slice tt x (some y) none none, ty, pos, after, guard⟩ s = some true) (aa : s.look x = some (cM z n xs)) (ah : s.look y = some (aT l)) (aH : 0 ≤ l) (h1 : l ≤ n) (hm : n - l.toNat = m) (he : (xs.drop (l.toNat * z)).take (m * z) = aU) (hd : Nat.blt d s.n = true) (h : bi P ops K rest (s.put (some d) (cM z m aU))) : bi P ops K (⟨some d, .slice tt x (some y) none none, ty, pos, after, guard⟩ :: rest) s := by
 subst hm he;refine fP (av := cM z (n - l.toNat) ((xs.drop (l.toNat * z)).take ((n - l.toNat) * z))) hw ⟨fun _ _ h => (by cases h), fun q al => ?_, fun U ad W env he => ?_, fun j ae => absurd ae (ll _ j)⟩ hd h
 ·simp [Op.operands] at al;rcases al with rfl | rfl
  ·exact ⟨_, aa⟩
  ·exact ⟨_, ah⟩
 ·have hv := he x (by simp [Op.operands]) _ aa;obtain ⟨A, c, us, ex, eM, _⟩ := xB hv;rw [ex] at hv;have ke : env y = .int .i64 l := (he y (by simp [Op.operands]) _ ah).1;obtain ⟨bw, ft, hu, dd, hs⟩ := my S.h;have e5 : P.underlying tt = some (.slice (P.elem tt)) := by rw [kd hu]; exact hu
  refine ⟨_, ?_, Ek (c' := c) hv (by omega) (by omega) (by omega)⟩;simp only [execOp, ex, gL, so, ke, Sem.run_bind, run_sliceAt_slice W tt _ _ _ _ e5, run_slice_l W tt A n c e5 .i64 l aH h1, kd hu, hq dd, Result.andThen_ok, hs, Sem.run_pure]
theorem afT {tt z n m : Nat} {x y u : Operand} {l r : Int} {xs aU : List AC} [S : h5 P tt z] (hw : want ops ⟨some d, .slice tt x (some y) (some u) none, ty, pos, after, guard⟩ s = some true) (aa : s.look x = some (cM z n xs)) (ah : s.look y = some (aT l)) (hu : s.look u = some (aT r)) (aH : 0 ≤ l) (h1 : l ≤ r) (h2 : r ≤ n) (hm : r.toNat - l.toNat = m) (he : (xs.drop (l.toNat * z)).take (m * z) = aU) (hd : Nat.blt d s.n = true) (h : bi P ops K rest (s.put (some d) (cM z m aU))) : bi P ops K (⟨some d, .slice tt x (some y) (some u) none, ty, pos, after, guard⟩ :: rest) s := by
 subst hm he;refine fP (av := cM z (r.toNat - l.toNat) ((xs.drop (l.toNat * z)).take ((r.toNat - l.toNat) * z))) hw ⟨fun _ _ h => (by cases h), fun q al => ?_, fun U ad W env he => ?_, fun j ae => absurd ae (ll _ j)⟩ hd h
 ·simp [Op.operands] at al;rcases al with rfl | rfl | rfl
  ·exact ⟨_, aa⟩
  ·exact ⟨_, ah⟩
  ·exact ⟨_, hu⟩
 ·have hv := he x (by simp [Op.operands]) _ aa;obtain ⟨A, c, us, ex, eM, _⟩ := xB hv;rw [ex] at hv;have ke : env y = .int .i64 l := (he y (by simp [Op.operands]) _ ah).1;have rH : env u = .int .i64 r := (he u (by simp [Op.operands]) _ hu).1;obtain ⟨bw, ft, hu, dd, hs⟩ := my S.h;have e5 : P.underlying tt = some (.slice (P.elem tt)) := by rw [kd hu]; exact hu
  refine ⟨_, ?_, Ek (c' := c) hv (by omega) (by omega) (by omega)⟩;simp only [execOp, ex, gL, so, ke, rH, Sem.run_bind, run_sliceAt_slice W tt _ _ _ _ e5, run_slice_lh W tt A n c e5 .i64 .i64 l r aH h1 (by omega), kd hu, hq dd, Result.andThen_ok, hs, Sem.run_pure]
theorem Fj {tt z n m : Nat} {x y u : Operand} {r k : Int} {xs aU : List AC} [S : h5 P tt z] (hw : want ops ⟨some d, .slice tt x none (some y) (some u), ty, pos, after, guard⟩ s = some true) (aa : s.look x = some (cM z n xs)) (ah : s.look y = some (aT r)) (hu : s.look u = some (aT k)) (aH : 0 ≤ r) (h1 : r ≤ k) (h2 : k ≤ n) (hm : r.toNat - 0 = m) (he : (xs.drop (0 * z)).take (m * z) = aU) (hd : Nat.blt d s.n = true) (h : bi P ops K rest (s.put (some d) (cM z m aU))) : bi P ops K (⟨some d, .slice tt x none (some y) (some u), ty, pos, after, guard⟩ :: rest) s := by
 subst hm he;refine fP (av := cM z (r.toNat - 0) ((xs.drop (0 * z)).take ((r.toNat - 0) * z))) hw ⟨fun _ _ h => (by cases h), fun q al => ?_, fun U ad W env he => ?_, fun j ae => absurd ae (ll _ j)⟩ hd h
 ·simp [Op.operands] at al;rcases al with rfl | rfl | rfl
  ·exact ⟨_, aa⟩
  ·exact ⟨_, ah⟩
  ·exact ⟨_, hu⟩
 ·have hv := he x (by simp [Op.operands]) _ aa;obtain ⟨A, c, us, ex, eM, _⟩ := xB hv;rw [ex] at hv;have ke : env y = .int .i64 r := (he y (by simp [Op.operands]) _ ah).1;have rH : env u = .int .i64 k := (he u (by simp [Op.operands]) _ hu).1;obtain ⟨bw, ft, hu, dd, hs⟩ := my S.h;have e5 : P.underlying tt = some (.slice (P.elem tt)) := by rw [kd hu]; exact hu
  refine ⟨_, ?_, Ek (c' := k.toNat) hv (by omega) (by omega) (by omega)⟩;simp only [execOp, ex, gL, so, ke, rH, Sem.run_bind, run_sliceAt_slice W tt _ _ _ _ e5, run_slice_hm W tt A n c e5 .i64 .i64 r k aH h1 (by omega), kd hu, hq dd, Result.andThen_ok, hs, Sem.run_pure]
theorem Fk {tt z n m : Nat} {x y u q : Operand} {l r k : Int} {xs aU : List AC} [S : h5 P tt z] (hw : want ops ⟨some d, .slice tt x (some y) (some u) (some q), ty, pos, after, guard⟩ s = some true) (aa : s.look x = some (cM z n xs)) (ah : s.look y = some (aT l)) (hu : s.look u = some (aT r)) (al : s.look q = some (aT k)) (aH : 0 ≤ l) (h1 : l ≤ r) (h2 : r ≤ k) (ap : k ≤ n) (hm : r.toNat - l.toNat = m) (he : (xs.drop (l.toNat * z)).take (m * z) = aU) (hd : Nat.blt d s.n = true) (h : bi P ops K rest (s.put (some d) (cM z m aU))) : bi P ops K (⟨some d, .slice tt x (some y) (some u) (some q), ty, pos, after, guard⟩ :: rest) s := by
 subst hm he;refine fP (av := cM z (r.toNat - l.toNat) ((xs.drop (l.toNat * z)).take ((r.toNat - l.toNat) * z))) hw ⟨fun _ _ h => (by cases h), fun q al => ?_, fun U ad W env he => ?_, fun j ae => absurd ae (ll _ j)⟩ hd h
 ·simp [Op.operands] at al;rcases al with rfl | rfl | rfl | rfl
  ·exact ⟨_, aa⟩
  ·exact ⟨_, ah⟩
  ·exact ⟨_, hu⟩
  ·exact ⟨_, al⟩
 ·have hv := he x (by simp [Op.operands]) _ aa;obtain ⟨A, c, us, ex, eM, _⟩ := xB hv;rw [ex] at hv;have ke : env y = .int .i64 l := (he y (by simp [Op.operands]) _ ah).1;have rH : env u = .int .i64 r := (he u (by simp [Op.operands]) _ hu).1;have eq : env q = .int .i64 k := (he q (by simp [Op.operands]) _ al).1;obtain ⟨bw, ft, hu, dd, hs⟩ := my S.h;have e5 : P.underlying tt = some (.slice (P.elem tt)) := by rw [kd hu]; exact hu
  refine ⟨_, ?_, Ek (c' := k.toNat) hv (by omega) (by omega) (by omega)⟩;simp only [execOp, ex, gL, so, ke, rH, eq, Sem.run_bind, run_sliceAt_slice W tt _ _ _ _ e5, run_slice_lhm W tt A n c e5 .i64 .i64 .i64 l r k aH h1 h2 (by omega), kd hu, hq dd, Result.andThen_ok, hs, Sem.run_pure]
end
def b5 : List (Int × Int) → List AC
 | [] => []
 | p :: l => .c (.int .i64 p.1) :: .c (.int .i64 p.2) :: b5 l
abbrev hr (l : List (Int × Int)) : aj := cM 2 l.length (b5 l)
theorem Nl : ∀ (l : List (Int × Int)) (i : Nat) (p : Int × Int), l[i]? = some p → ((b5 l).drop (i * 2)).take 2 = [.c (.int .i64 p.1), .c (.int .i64 p.2)]
 | [], i, p, h => by simp at h
 | q :: l, 0, p, h => by simp at h; subst h; simp [b5]
 | q :: l, i + 1, p, h => by
  have e : (i + 1) * 2 = i * 2 + 1 + 1 := by omega
  rw [e];simp only [b5, List.drop_succ_cons];exact Nl l i p (by simpa using h)
theorem vg {l : List (Int × Int)} {j : Int} {i : Nat} {x y : Int} (ae : j = i) (h : l[i]? = some (x, y)) : ((b5 l).drop (j.toNat * 2)).take 2 = [.c (.int .i64 x), .c (.int .i64 y)] := by
 subst ae;exact Nl l i (x, y) h
theorem nG : ∀ (l : List (Int × Int)), (b5 l).length = l.length * 2
 | [] => rfl
 | p :: l => by simp only [b5, lr, nG l]; omega
theorem r3 : ∀ (l m : List (Int × Int)), b5 (l ++ m) = b5 l ++ b5 m
 | [], _ => rfl
 | p :: l, m => by simp only [List.cons_append, b5, r3 l m]
theorem vf : ∀ (l : List (Int × Int)), (b5 l).all AC.bb = true
 | [] => rfl
 | p :: l => by simp only [b5, j3, vf l]; rfl
def cF (l : List Int) : List AC := l.map fun x => .c (.int .i64 x)
abbrev nT (l : List Int) : aj := cM 1 l.length (cF l)
theorem C0 {l : List Int} {j : Int} {i : Nat} {x : Int} (ae : j = i) (h : l[i]? = some x) : ((cF l).drop (j.toNat * 1)).take 1 = [.c (.int .i64 x)] := by
 subst ae;have hi := (bX.1 h).1;rw [ks, Nat.mul_one, mV (by simpa [cF] using hi)];have : l[i] = x := (bX.1 h).2;simp [cF, this]
theorem CZ (l m : List Int) : cF (l ++ m) = cF l ++ cF m := by simp [cF]
instance ahF : n0 Tryz.prog 51 3 1 8 := ⟨by kernel_rfl⟩
def x6 (x y z w : Int) (fx fy : Bool) : Bool := if x < z then !fx else if z < x then fx else if y < w then !fy else decide (w < y) && fy
end Go.Proofs.YtpochbhajmbfdaaGreat
namespace Go.Proofs.YtpochbhajmbfdaaGreat
abbrev an := Int × Int
def dB (fx fy : Bool) (p q : an) : Bool := x6 p.1 p.2 q.1 q.2 fx fy
theorem x4 {fx fy : Bool} {p q : an} : dB fx fy p q = true ↔ (if fx then q.1 < p.1 else p.1 < q.1) ∨ (p.1 = q.1 ∧ if fy then q.2 < p.2 else p.2 < q.2) := by
 unfold dB x6
 by_cases h1 : p.1 < q.1
 ·cases fx <;> simp [h1] <;> omega
 ·by_cases h2 : q.1 < p.1
  ·cases fx <;> simp [h1, h2] <;> omega
  ·have e : p.1 = q.1 := by omega
   by_cases ap : p.2 < q.2
   ·cases fx <;> cases fy <;> simp [h1, h2, ap, e] <;> omega
   ·cases fx <;> cases fy <;> simp [h1, h2, ap, e] <;> omega
theorem x5 {fx fy : Bool} {p q r : an} (h1 : dB fx fy p q = true) (h2 : dB fx fy q r = true) : dB fx fy p r = true := by
 rw [x4] at *;cases fx <;> cases fy <;> simp at * <;> omega
theorem Kc {fx fy : Bool} {p : an} : dB fx fy p p = false := by
 cases h : dB fx fy p p with
 | false => rfl
 | true => rw [x4] at h; cases fx <;> cases fy <;> simp at h
theorem Kb {fx fy : Bool} {p q : an} (h1 : dB fx fy p q = true) : dB fx fy q p = false := by
 cases h : dB fx fy q p with
 | false => rfl
 | true => have := x5 h1 h; rw [Kc] at this; cases this
theorem Fe {fx fy : Bool} {p q : an} (h : p ≠ q) : dB fx fy p q = true ∨ dB fx fy q p = true := by
 rw [x4, x4]
 have : p.1 ≠ q.1 ∨ p.2 ≠ q.2 := by
  by_cases h1 : p.1 = q.1
  ·exact .inr fun h2 => h (Prod.ext h1 h2)
  ·exact .inl h1
 cases fx <;> cases fy <;> simp <;> omega
def jM (fx fy : Bool) (l : List an) : Prop := l.Pairwise fun p q => dB fx fy p q = true
theorem Kp {fx fy : Bool} : ∀ {l m : List an}, jM fx fy l → jM fx fy m → l.Perm m → l = m
 | [], m, _, _, hp => by have := hp.nil_eq; exact this
 | p :: l, [], _, _, hp => by have := hp.length_eq; simp at this
 | p :: l, q :: m, ao, hm, hp => by
  have h1 := iR.1 ao;have h2 := iR.1 hm
  have e : p = q := by
   rcases gM.1 (hp.mem_iff.1 (lq ..) : p ∈ q :: m) with h | h
   ·exact h
   ·rcases gM.1 (hp.mem_iff.2 (lq ..) : q ∈ p :: l) with aF | aF
    ·exact aF.symm
    ·have a := h1.1 q aF;have b := h2.1 p h;rw [Kb a] at b; cases b
  subst e;rw [Kp h1.2 h2.2 (List.perm_cons p |>.1 hp)]
def lQ (fx fy : Bool) (q : an) : List an → List an
 | [] => [q]
 | p :: l => if dB fx fy q p then q :: p :: l else p :: lQ fx fy q l
theorem zq (fx fy : Bool) (q : an) : ∀ l, (lQ fx fy q l).Perm (q :: l)
 | [] => .refl _
 | p :: l => by
  unfold lQ
  split
  ·exact .refl _
  ·exact ((zq fx fy q l).cons p).trans (.swap q p l)
theorem Ng {fx fy : Bool} {q : an} : ∀ {l : List an}, jM fx fy l → q ∉ l → jM fx fy (lQ fx fy q l)
 | [], _, _ => by unfold lQ jM; simp
 | p :: l, h, aE => by
  have ak := iR.1 h;unfold lQ
  split
  ·rename_i al;refine iR.2 ⟨fun r aq => ?_, h⟩;rcases gM.1 aq with rfl | aq
   ·exact al
   ·exact x5 al (ak.1 r aq)
  ·rename_i al;refine iR.2 ⟨fun r aq => ?_, Ng ak.2 fun aF => aE (pI _ aF)⟩;rcases gM.1 ((zq fx fy q l).mem_iff.1 aq) with rfl | aq
   ·rcases Fe (fx := fx) (fy := fy) (p := p) (q := r) (fun e => aE (by rw [e]; exact lq ..)) with aF | aF
    ·exact aF
    ·exact absurd aF al
   ·exact ak.1 r aq
def qV (fx fy : Bool) (f : an → Bool) (l : List an) : List an := l.foldl (fun out q => if f q then lQ fx fy q out else out) []
theorem En (fx fy : Bool) (f : an → Bool) (l : List an) : (qV fx fy f l).Perm (l.filter f) := by
 have key : ∀ (l out : List an), (l.foldl (fun out q => if f q then lQ fx fy q out else out) out).Perm (out ++ l.filter f) := by
  intro l
  induction l with
  | nil => intro out; simp
  | cons q l cw =>
   intro out;rw [List.foldl_cons, List.filter_cons]
   by_cases al : f q = true
   ·rw [if_pos al, if_pos al];refine (cw _).trans ?_;refine ((zq fx fy q out).append_right _).trans ?_;exact List.perm_middle.symm
   ·rw [if_neg al, if_neg al]; exact cw out
 exact key l []
theorem aeT (fx fy : Bool) (f : an → Bool) (l : List an) : (qV fx fy f l).length ≤ l.length := by
 rw [(En fx fy f l).length_eq]; exact List.length_filter_le _ _
theorem aeR (fx fy : Bool) (f : an → Bool) {l : List an} (aE : l.Nodup) : jM fx fy (qV fx fy f l) := by
 have key : ∀ (l out : List an), jM fx fy out → (out ++ l).Nodup → jM fx fy (l.foldl (fun out q => if f q then lQ fx fy q out else out) out) := by
  intro l
  induction l with
  | nil => intro out h _; exact h
  | cons q l cw =>
   intro out h hd;have hm := List.nodup_append.1 hd;have al : q ∉ out := fun lg => hm.2.2 q lg q (lq ..) rfl;rw [List.foldl_cons]
   by_cases ar : f q = true
   ·rw [if_pos ar];refine cw _ (Ng h al) ?_;have hp : (lQ fx fy q out ++ l).Perm (out ++ q :: l) := ((zq fx fy q out).append_right l).trans List.perm_middle.symm;exact hp.nodup_iff.2 hd
   ·rw [if_neg ar];refine cw _ h ?_;exact hd.sublist (List.Sublist.append_left (List.sublist_cons_self q l) out)
 exact key l [] List.Pairwise.nil (by simpa using aE)
theorem H3 (lt : an → an → Bool) : ∀ a b, (eT lt a b).Perm (a ++ b) := by
 intro a b
 induction a, b using eT.induct lt with
 | case1 b => simp [eT]
 | case2 x a => simp [eT]
 | case3 x a y b h cw =>
  rw [eT, if_pos h];exact (cw.cons y).trans List.perm_middle.symm
 | case4 x a y b h cw =>
  rw [eT, if_neg h];exact cw.cons x
theorem aaL {fx fy : Bool} : ∀ a b, jM fx fy a → jM fx fy b → (a ++ b).Nodup → jM fx fy (eT (dB fx fy) a b) := by
 intro a b
 induction a, b using eT.induct (dB fx fy) with
 | case1 b => intro _ h _; simpa [eT] using h
 | case2 x a => intro h _ _; simpa [eT] using h
 | case3 x a y b h cw =>
  intro aK ab hd;rw [eT, if_pos h];have Ct := iR.1 ab;have ea := iR.1 aK;have rO : (x :: a ++ b).Nodup := hd.sublist (List.Sublist.append_left (List.sublist_cons_self y b) (x :: a));refine iR.2 ⟨fun r aq => ?_, cw aK Ct.2 rO⟩;rcases kT.1 ((H3 _ _ _).mem_iff.1 aq) with aq | aq
  ·rcases gM.1 aq with rfl | aq
   ·exact h
   ·exact x5 h (ea.1 r aq)
  ·exact Ct.1 r aq
 | case4 x a y b h cw =>
  intro aK ab hd;rw [eT, if_neg h];have Ct := iR.1 ab;have ea := iR.1 aK;have kN : x ≠ y := fun e => (List.nodup_append.1 hd).2.2 x (lq ..) y (lq ..) e;have bj : dB fx fy x y = true := (Fe kN).resolve_right h;have rO : (a ++ y :: b).Nodup := (List.nodup_cons.1 hd).2;refine iR.2 ⟨fun r aq => ?_, cw ea.2 ab rO⟩;rcases kT.1 ((H3 _ _ _).mem_iff.1 aq) with aq | aq
  ·exact ea.1 r aq
  ·rcases gM.1 aq with rfl | aq
   ·exact bj
   ·exact x5 bj (Ct.1 r aq)
theorem Ap (lt : an → an → Bool) : ∀ (N : Nat) (l : List an), l.length ≤ N → (ix lt l).Perm l
 | N, l, h => by
  by_cases q : l.length < 2
  ·rw [ix, dif_pos q]
  ·match N with
   | 0 => omega
   | N + 1 =>
    rw [ix, dif_neg q];refine (H3 lt _ _).trans ?_;refine ((Ap lt N _ (by simp; omega)).append (Ap lt N _ (by simp; omega))).trans ?_;rw [kq]
theorem I2 {fx fy : Bool} : ∀ (N : Nat) (l : List an), l.length ≤ N → l.Nodup → jM fx fy (ix (dB fx fy) l)
 | N, l, h, hd => by
  by_cases q : l.length < 2
  ·rw [ix, dif_pos q]
   match l, q with
   | [], _ => exact .nil
   | [x], _ => unfold jM; simp
   | x :: y :: l, q => exact absurd q (by simp)
  ·match N with
   | 0 => omega
   | N + 1 =>
    rw [ix, dif_neg q];refine aaL _ _ (I2 N _ (by simp; omega) (hd.sublist (List.take_sublist _ _))) (I2 N _ (by simp; omega) (hd.sublist (List.drop_sublist _ _))) ?_;have hp := (Ap (dB fx fy) N (l.take (l.length / 2)) (by simp; omega)).append (Ap (dB fx fy) N (l.drop (l.length / 2)) (by simp; omega));rw [kq] at hp;exact hp.nodup_iff.2 hd
theorem aeZ {fx fy : Bool} {f : an → Bool} {l m : List an} (aE : l.Nodup) (hp : m.Perm (l.filter f)) : ix (dB fx fy) m = qV fx fy f l :=
 Kp (I2 _ m (dW _) (hp.nodup_iff.2 (aE.sublist List.filter_sublist))) (aeR fx fy f aE) ((Ap _ _ m (dW _)).trans (hp.trans (En fx fy f l).symm))
end Go.Proofs.YtpochbhajmbfdaaGreat
namespace Go.Proofs.YtpochbhajmbfdaaGreat
open Go.RowKit
def At (P : Program) (ql : TypeId) (agg : Bool) (n : Nat) : Bool := match j5 P ql with
 | some (b, m) => Bool.beq b agg && Nat.beq m n
 | none => false
where Bool.beq : Bool → Bool → Bool
 | true, true => true
 | false, false => true
 | _, _ => false
def F4 (P : Program) (ty i off : Nat) (agg : Bool) (n : Nat) : Bool := match P.underlying ty with
 | some (.struct bm) => match bm[i]? with
  | some f => Nat.beq f.offset off && At P f.type agg n
  | none => false
 | _ => false
def Ht (P : Program) (ty len : Nat) (agg : Bool) (n : Nat) : Bool := match P.underlying ty with
 | some (.array l e) => Nat.beq l len && At P e agg n && (match P.info? e with | some t => Nat.beq t.size n | none => false)
 | _ => false
class Jt (P : Program) (ty i : Nat) (off : outParam Nat) (agg : outParam Bool) (n : outParam Nat) : Prop where
 h : F4 P ty i off agg n = true
class Jw (P : Program) (ty : Nat) (len : outParam Nat) (agg : outParam Bool) (n : outParam Nat) : Prop where
 h : Ht P ty len agg n = true
section
variable {P : Program}
theorem QV {ql n : Nat} {agg : Bool} (h : At P ql agg n = true) : j5 P ql = some (agg, n) := by
 unfold At at h
 split at h
 ·rename_i b m ab;rw [dS] at h;have e := gZ h.2;have aO : b = agg := by cases b <;> cases agg <;> simp [At.Bool.beq] at h ⊢
  rw [ab, e, aO]
 ·cases h
theorem Qq {ql n off : Nat} {cs : List Value} {v : Value} {W : World} (h : j5 P ql = some (false, n)) (hv : cs[off]? = some v) : (part ql cs.toArray off).run P W = .ok v W := by
 unfold j5 at h;cases hu : P.underlying ql with
 | none => rw [hu] at h; cases h
 | some D =>
  have h1 : (isAgg ql).run P W = .ok false W := by
   unfold isAgg;simp only [Sem.run_bind, run_underlying hu, Result.andThen_ok];cases hi : P.info? ql with
   | none => rw [hu, hi] at h; cases D <;> first | rfl | (cases h)
   | some eB => rw [hu, hi] at h; cases D <;> first | rfl | (cases h)
  unfold part;simp only [Sem.run_bind, h1, Result.andThen_ok, nM, if_false, List.getElem?_toArray, hv, Sem.run_pure]
variable {s : aC} {ops : Array Oper} {K : aC → Prop} {rest : List Oper} {ty : Nat} {pos : String} {after : Array Edge} {guard : Option (Nat × Bool)} {d : Nat}
theorem V6 {c0 i off n : Nat} {agg : Bool} (h : F4 P c0 i off agg n = true) : ∃ bm f, P.underlying c0 = some (.struct bm) ∧ bm[i]? = some f ∧ f.offset = off ∧ j5 P f.type = some (agg, n) := by
 unfold F4 at h
 split at h
 ·rename_i bm hu
  split at h
  ·rename_i f ar;rw [dS] at h;exact ⟨bm, f, hu, ar, gZ h.1, QV h.2⟩
  ·cases h
 ·cases h
theorem Y9 {c0 len n : Nat} {agg : Bool} (h : Ht P c0 len agg n = true) : ∃ e t, P.underlying c0 = some (.array len e) ∧ P.info? e = some t ∧ t.size = n ∧ j5 P e = some (agg, n) := by
 unfold Ht at h
 split at h
 ·rename_i l e hu;simp only [dS] at h;obtain ⟨⟨h1, h2⟩, ap⟩ := h
  split at ap
  ·rename_i t aD;exact ⟨e, t, by rw [hu, gZ h1], aD, gZ ap, QV h2⟩
  ·cases ap
 ·cases h
theorem Te {x : Operand} {c0 i off n : Nat} {xs : List AC} {y : AC} [F : Jt P c0 i off false n] (hw : want ops ⟨some d, .field c0 x i, ty, pos, after, guard⟩ s = some true) (aa : s.look x = some (.w (.agg xs))) (ak : xs[off]? = some y) (hd : Nat.blt d s.n = true) (h : bi P ops K rest (s.put (some d) (.w (.one y)))) : bi P ops K (⟨some d, .field c0 x i, ty, pos, after, guard⟩ :: rest) s := by
 refine fP hw ⟨fun _ _ h => (by cases h), fun z aZ => ?_, fun U ad W env he => ?_, fun j ae => ⟨x, by simp [Op.operands], _, aa, ?_⟩⟩ hd h
 ·simp [Op.operands] at aZ;subst aZ;exact ⟨_, aa⟩
 ·obtain ⟨vs, aI, ao⟩ := he x (by simp [Op.operands]) _ aa;obtain ⟨bm, f, hu, ar, ay, dZ⟩ := V6 F.h;have bj : off < vs.length := by rw [← ao.1]; exact (bX.1 ak).1
  refine ⟨vs[off], ?_, ao.2 off y _ ak (cp bj)⟩;simp only [execOp, Instr.field, aI, Sem.run_bind, run_underlying hu, Result.andThen_ok, ar, asAgg, Sem.run_pure, ay, Qq dZ (cp bj)]
 ·obtain ⟨z, aZ, zo⟩ := ae;simp [bI.cells] at aZ;subst aZ;exact ⟨z, dG ak, zo⟩
theorem Tk {x y : Operand} {c0 len n : Nat} {gG : IntKind} {i : Int} {xs : List AC} {z : AC} [A : Jw P c0 len false n] (hw : want ops ⟨some d, .index c0 x y, ty, pos, after, guard⟩ s = some true) (aa : s.look x = some (.w (.agg xs))) (ah : s.look y = some (aQ (.int gG i))) (aH : 0 ≤ i) (h1 : i < len) (ak : xs[i.toNat * n]? = some z) (hd : Nat.blt d s.n = true) (h : bi P ops K rest (s.put (some d) (.w (.one z)))) : bi P ops K (⟨some d, .index c0 x y, ty, pos, after, guard⟩ :: rest) s := by
 refine fP hw ⟨fun _ _ h => (by cases h), fun z aZ => ?_, fun U ad W env he => ?_, fun j ae => ⟨x, by simp [Op.operands], _, aa, ?_⟩⟩ hd h
 ·simp [Op.operands] at aZ;rcases aZ with rfl | rfl
  ·exact ⟨_, aa⟩
  ·exact ⟨_, ah⟩
 ·obtain ⟨vs, aI, ao⟩ := he x (by simp [Op.operands]) _ aa;have hi : env y = .int gG i := (he y (by simp [Op.operands]) _ ah).1;obtain ⟨e, t, hu, aD, hs, dZ⟩ := Y9 A.h;have bj : i.toNat * n < vs.length := by rw [← ao.1]; exact (bX.1 ak).1
  refine ⟨vs[i.toNat * n], ?_, ao.2 _ z _ ak (cp bj)⟩;simp only [execOp, Instr.index, aI, hi, asIntOf, Sem.run_bind, Sem.run_pure, Result.andThen_ok, run_underlying hu, if_pos (And.intro aH h1), hq aD, hs, Qq dZ (cp bj)]
 ·obtain ⟨u, hu, YC⟩ := ae;simp [bI.cells] at hu;subst hu;exact ⟨u, dG ak, YC⟩
theorem Ta {c0 dK : Nat} {x y : Operand} {a b : Bool} (hw : want ops ⟨some d, .binOp .eql c0 x y dK, ty, pos, after, guard⟩ s = some true) (aa : s.look x = some (bE a)) (ah : s.look y = some (bE b)) (hd : Nat.blt d s.n = true) (hu : P.underlying c0 = some .bool) (h : bi P ops K rest (s.put (some d) (bE (a == b)))) : bi P ops K (⟨some d, .binOp .eql c0 x y dK, ty, pos, after, guard⟩ :: rest) s :=
 rp hw aa ah rfl rfl (fun W => rfl) (fun W => run_eql_bool W c0 a b hu) rfl hd h
end
theorem PA {P : Program} {f : FuncId} {args rr : List aj} {r : aj} (h : aR P f args r) (jn : rr.all aj.bb = true) (ao : rr.length = args.length) (hle : ∀ (i : Nat) x y, rr[i]? = some x → args[i]? = some y → x.bp y) : aR P f rr r :=
 ⟨fun x aa => aj.dy (ct.1 jn x aa), h.cj, fun U W vs dJ => h.call U W vs ⟨by rw [← ao]; exact dJ.1, fun i y v ah hv => by
  have hi : i < rr.length := by rw [ao]; exact (bX.1 ah).1
  exact hle i _ y (cp hi) ah U id W v (dJ.2 i _ v (cp hi) hv)⟩⟩
abbrev Jb : aj := aQ (.slice none 0 0)
theorem nil_le (z : Nat) : Jb.bp (cM z 0 []) := fun U ad W v h => by
 obtain ⟨rfl, _⟩ := h;exact ⟨⟨none, 0, rfl, dW _, by simp, fun h => absurd h (Nat.lt_irrefl _)⟩, fun b ⟨c, a, q, aE, _⟩ => absurd aE (Nat.lt_irrefl _)⟩
end Go.Proofs.YtpochbhajmbfdaaGreat
