/-
  My own texts, without what this claim does not need. My own text.
-/
import Derived.Laws.Slices
import Derived.Test.YtpochbhajmbfdaaGreatSLastK4
set_option maxRecDepth 100000
set_option maxHeartbeats 64000000
set_option linter.unusedVariables false
set_option linter.unusedSimpArgs false
set_option linter.unusedSectionVars false
namespace Go.Proofs.YtpochbhajmbfdaaGreat
open Go.RowKit
abbrev Mem := Nat → Option (List AC)
def ca : Mem := fun _ => none
def ec (ad : Nat → Nat) (m : Mem) (R : aJ) (b : Nat) : Prop := (∃ k cs, m k = some cs ∧ ad k = b) ∨ ∃ i r, R i = some r ∧ r.own b
structure eW (U : Nat → Prop) (ad : Nat → Nat) (W : World) (m : Mem) (R : aJ) : Prop where
  du : ∀ k cs, m k = some cs → ∃ (vs : List Value) (ty : TypeId), W.heap[ad k]? = some (.cells vs.toArray ty (0, 0)) ∧ bP U ad W cs vs ∧ ¬ U (ad k)
  fE : ∀ k cs x j, m k = some cs → x ∈ cs → x.owns j → ∃ ar, m j = some ar
  inj : ∀ k k' cs ar, m k = some cs → m k' = some ar → ad k = ad k' → k = k'
  rows : ∀ i r, R i = some r → r.ok U ad W ∧ (∀ y ∈ r.aV, y.bc = true) ∧ ∀ g, r.own g → ¬ U g ∧ ∀ k cs, m k = some cs → ad k ≠ g
  apart : ∀ i j r q, R i = some r → R j = some q → i ≠ j → ∀ g, r.own g → ¬ q.own g
def G4 (ad : Nat → Nat) (W : World) (m : Mem) (R : aJ) : eS := ⟨W, fun b => b < W.heap.size ∧ ¬ ec ad m R b, fun _ h => h.1, fun _ => none, []⟩
def bZ {α : Type} (f g : Nat → Option α) : Nat → Option α := fun j => match f j with
  | some x => some x
  | none => g j
theorem jC {α : Type} {f g : Nat → Option α} {j : Nat} {x : α} (h : bZ f g j = some x) : f j = some x ∨ (f j = none ∧ g j = some x) := by
  unfold bZ at h;cases au : f j with
  | some y => rw [au] at h; exact .inl h
  | none => rw [au] at h; exact .inr ⟨rfl, h⟩
theorem hf {α : Type} {f g : Nat → Option α} {j : Nat} {x : α} (h : f j = some x) : bZ f g j = some x := by unfold bZ; rw [h]
theorem hg {α : Type} {f g : Nat → Option α} {j : Nat} (h : f j = none) : bZ f g j = g j := by unfold bZ; rw [h]
structure dn (P : Program) (f : FuncId) (args : List ai) (m0 : Mem) (R0 : aJ) (Post : ai → Mem → aJ → Prop) : Prop where
  call : ∀ (U : Nat → Prop) (ad : Nat → Nat) (W : World) (vs : List Value), eW U ad W m0 R0 → (∀ x ∈ args, ∀ j, x.owns j → ∃ cs, m0 j = some cs) → jO U ad W args vs →
    Calls P f vs.toArray W fun e W' => ∃ v r aH az bg cA, e = .returned v ∧ Post r aH az ∧ eW cA bg W' aH az ∧ dc cA bg W' r v ∧ (∀ j, r.owns j → ∃ cs, aH j = some cs) ∧
      (∀ k cs, m0 k = some cs → bg k = ad k ∧ ∃ ar, aH k = some ar) ∧ (∀ i r, R0 i = some r → ∃ a8, az i = some a8) ∧
      (∀ b, cA b → U b ∨ W.heap.size ≤ b ∨ ec ad m0 R0 b) ∧ (∀ b, ec bg aH az b → ec ad m0 R0 b ∨ W.heap.size ≤ b) ∧ jK (G4 ad W m0 R0) W'
section
variable {P : Program} {B br : eS} {A bY : Nat → Prop} {s : aD} {ad : Nat → Nat} {a : Act} {w : World} {o : Oper} {R : aJ} {Q : Exit → Act → World → Prop}
theorem oU.Ud {U : Nat → Prop} {v : Value} {fn : Fn} {cs : List AC} (h : gm U ad w (.p (oU fn cs)) v) : ∃ vs : List Value, v = .func fn #[] vs.toArray ∧ ∀ bg, bP U bg w cs vs := by
  obtain ⟨⟨vs, rfl, an, ak⟩, au⟩ := h;refine ⟨vs, rfl, fun bg => ⟨an.1, fun i x u aa hu => ?_⟩⟩;have h := an.2 i x u aa hu;cases x with
  | c y => exact h
  | own k o => exact absurd rfl (ak _ (dF aa) k)
  | p R => exact ⟨h.1, fun b ab => au b ⟨vs, rfl, i, _, u, aa, hu, ab⟩⟩
theorem sP.run {f : FuncId} {args : List ai} (ak : sP P s.look o f args) (ay : Rel B A s ad a w) : ∃ us : List Value, jO (s.free A ad) ad w args us ∧ (execOp a.eval o).run P w = .ok (.enter f us.toArray) w := by
  obtain ⟨⟨c, g, ax, yO, aY⟩, yR⟩ := ak;rcases aY with ⟨bs, aw, n8, wP⟩ | ⟨cs, aw, n8⟩
  · have kl : a.eval g = .func (.func f) bs.toArray #[] := (ay.look aw).1
    refine ⟨bs ++ c.args.toList.map a.eval, ?_, ?_⟩
    · refine ⟨by have := congrArg List.length n8; simpa using this.symm, fun i x v aa hv => ?_⟩
      have h1 : (bs.map (fun b => some (xi b)) ++ c.args.toList.map s.look)[i]? = some (some x) := by rw [n8, eD, aa]; rfl
      rcases iL i bs.length with bi | ld
      · rw [fV (by simpa using bi), eD] at h1
        rw [fV bi] at hv;rw [hv] at h1;simp only [gH, hR] at h1;subst h1;exact Qa (cu.1 wP v (dF hv))
      · rw [gr (by simpa using ld), eD] at h1
        rw [gr ld, eD] at hv;simp only [lU] at h1;cases ag : c.args.toList[i - bs.length]? with
        | none => rw [ag] at hv; cases hv
        | some y =>
          rw [ag] at h1 hv;simp only [gH, hR] at h1 hv;subst hv;exact ay.look h1
    · have e : bs.toArray ++ c.args.map a.eval ++ #[] = (bs ++ c.args.toList.map a.eval).toArray := by
        rw [Array.append_empty];apply Array.ext';simp
      simp only [execOp, ax, resolve, yO, Deferred.ofValue, kl];simp only [Sem.run_bind, Sem.run_pure, Result.andThen_ok, invoke];rw [e];exact B0 yR
  · obtain ⟨vs, kl, cO⟩ := oU.Ud (ad := ad) (ay.look aw)
    refine ⟨c.args.toList.map a.eval ++ vs, ?_, ?_⟩
    · refine ⟨by have := congrArg List.length n8; have h2 := (cO ad).1; simp at this ⊢; omega, fun i x v aa hv => ?_⟩
      have h1 : (c.args.toList.map s.look ++ cs.map (fun x => some (.w (.one x))))[i]? = some (some x) := by rw [n8, eD, aa]; rfl
      rcases iL i c.args.toList.length with bi | ld
      · rw [fV (by simpa using bi), eD] at h1
        rw [fV (by simpa using bi), eD] at hv;cases ag : c.args.toList[i]? with
        | none => rw [ag] at hv; cases hv
        | some y =>
          rw [ag] at h1 hv;simp only [gH, hR] at h1 hv;subst hv;exact ay.look h1
      · rw [gr (by simpa using ld), eD] at h1
        rw [gr (by simpa using ld)] at hv;simp only [lU] at h1 hv;cases ag : cs[i - c.args.toList.length]? with
        | none => rw [ag] at h1; cases h1
        | some y =>
          rw [ag] at h1;simp only [gH, hR] at h1;subst h1;exact (cO ad).2 _ y v ag hv
    · have e : (#[] : Array Value) ++ c.args.map a.eval ++ vs.toArray = (c.args.toList.map a.eval ++ vs).toArray := by
        apply Array.ext';simp
      simp only [execOp, ax, resolve, yO, Deferred.ofValue, kl];simp only [Sem.run_bind, Sem.run_pure, Result.andThen_ok, invoke];rw [e];exact B0 yR
theorem ep.part (ay : ep br bY R s a w A ad) {m0 : Mem} {R0 : aJ} (hm : ∀ k cs, m0 k = some cs → s.mem k = some cs) (aq : bH R0 R) (fE : ∀ k cs x j, m0 k = some cs → x ∈ cs → x.owns j → ∃ ar, m0 j = some ar) : eW (s.free A ad) ad w m0 R0 := by
  refine ⟨fun k cs af => ?_, fE, fun k k' cs ar af eJ e => ay.rel.inj k k' cs ar (hm k cs af) (hm k' ar eJ) e, fun i r hi => ?_, fun i j r q hi ae => ay.apart i j r q (aq i r hi) (aq j q ae)⟩
  · obtain ⟨vs, ty, h1, h2, _⟩ := ay.rel.du k cs (hm k cs af)
    exact ⟨vs, ty, h1, h2, fun h => h.2 k cs (hm k cs af) rfl⟩
  · obtain ⟨h1, h2, ap⟩ := ay.rows i r (aq i r hi)
    exact ⟨h1, h2, fun g aw => ⟨fun h => (ap g aw).1 h.1, fun k cs af => (ap g aw).2 k cs (hm k cs af)⟩⟩
theorem ep.X9 (ay : ep br bY R s a w A ad) {m0 : Mem} {R0 : aJ} (hm : ∀ k cs, m0 k = some cs → s.mem k = some cs) (aq : bH R0 R) {b : Nat} (h : ec ad m0 R0 b) : b < w.heap.size := by
  rcases h with ⟨k, cs, af, rfl⟩ | ⟨i, r, hi, aw⟩
  · exact ay.rel.lt (hm k cs af)
  · exact (ay.rows i r (aq i r hi)).ok.lt aw
def aD.over (s : aD) (aH : Mem) : aD := { s with mem := bZ aH s.mem }
theorem ep.called (ay : ep br bY R s a w A ad) (ok : s.cN) {m0 aH : Mem} {R0 az : aJ} {bg : Nat → Nat} {cA : Nat → Prop} {w' : World} (hm : ∀ k cs, m0 k = some cs → s.mem k = some cs) (aq : bH R0 R)
    (cK : eW cA bg w' aH az) (bA : ∀ k cs, m0 k = some cs → bg k = ad k ∧ ∃ ar, aH k = some ar) (b9 : ∀ i r, R0 i = some r → ∃ a8, az i = some a8) (f1 : ∀ k ar, aH k = some ar → (∃ cs, m0 k = some cs) ∨ s.mem k = none) (fn : ∀ k ar, aH k = some ar → s.mem k = none → k < s.n)
    (cE : ∀ b, cA b → s.free A ad b ∨ w.heap.size ≤ b ∨ ec ad m0 R0 b) (cF : ∀ b, ec bg aH az b → ec ad m0 R0 b ∨ w.heap.size ≤ b) (ab : jK (G4 ad w m0 R0) w') :
    ep br bY (bZ az R) (s.over aH) a w' (fun b => (s.free A ad b ∧ b < w.heap.size) ∨ cA b ∨ w'.heap.size ≤ b) (fun k => match aH k with | some _ => bg k | none => ad k) ∧
      (∀ b, cA b → (s.over aH).free (fun b => (s.free A ad b ∧ b < w.heap.size) ∨ cA b ∨ w'.heap.size ≤ b) (fun k => match aH k with | some _ => bg k | none => ad k) b) ∧ (s.over aH).cN := by
  have bi : ∀ b, ec ad m0 R0 b → b < w.heap.size := fun b h => ay.X9 hm aq h
  have iY : ∀ k, (∃ cs, s.mem k = some cs) → (match aH k with | some _ => bg k | none => ad k) = ad k := by
    rintro k ⟨cs, af⟩;cases fR : aH k with
    | none => rfl
    | some ar =>
      rcases f1 k ar fR with ⟨uF, aG⟩ | aG
      · exact (bA k uF aG).1
      · rw [aG] at af; cases af
  have YO : ∀ k ar, aH k = some ar → (match aH k with | some _ => bg k | none => ad k) = bg k := fun k ar h => by rw [h]
  have rW : ∀ b, s.free A ad b → ¬ ec ad m0 R0 b := by
    rintro b au (⟨k, cs, af, rfl⟩ | ⟨i, r, hi, aw⟩)
    · exact au.2 k cs (hm k cs af) rfl
    · exact ((ay.rows i r (aq i r hi)).own b aw).1 au.1
  have uS : ∀ b, b < w.heap.size → ¬ ec ad m0 R0 b → w'.heap[b]? = w.heap[b]? := fun b h1 h2 => ab.block b ⟨h1, h2⟩;have bQ : w.heap.size ≤ w'.heap.size := ab.size
  have CI : ∀ b, ec bg aH az b → b < w'.heap.size := by
    rintro b (⟨k, cs, af, rfl⟩ | ⟨i, r, hi, aw⟩)
    · obtain ⟨vs, ty, h1, _⟩ := cK.du k cs af
      exact (ku.1 h1).1
    · exact (cK.rows i r hi).1.lt aw
 
  have zI : ∀ k cs, aH k = none → s.mem k = some cs → ¬ ec ad m0 R0 (ad k) := by
    rintro k cs aF af (⟨j, uF, ae, e⟩ | ⟨i, r, hi, aw⟩)
    · have bu : j = k := ay.rel.inj j k _ _ (hm j uF ae) af e
      subst bu;obtain ⟨_, ar, h⟩ := bA j uF ae;rw [aF] at h; cases h
    · exact ((ay.rows i r (aq i r hi)).own _ aw).2 k cs af rfl
  have Ae : ∀ i r, az i = none → R i = some r → ∀ g, r.own g → ¬ ec ad m0 R0 g := by
    rintro i r aF hi g aw (⟨j, uF, ae, e⟩ | ⟨ft, a8, de, eu⟩)
    · exact ((ay.rows i r hi).own _ aw).2 j uF (hm j uF ae) e
    · by_cases e : i = ft
      · subst e
        obtain ⟨q, h⟩ := b9 i a8 de;rw [aF] at h; cases h
      · exact ay.apart i ft r a8 hi (aq ft a8 de) e g aw eu
  have xv : ∀ i r, R i = some r → ∀ g, r.own g → g < w.heap.size := fun i r hi g aw => (ay.rows i r hi).ok.lt aw
  have Gu : ∀ b, cA b → ¬ ec bg aH az b := by
    rintro b hu (⟨k, cs, af, rfl⟩ | ⟨i, r, hi, aw⟩)
    · obtain ⟨_, _, _, _, h⟩ := cK.du k cs af; exact h hu
    · exact ((cK.rows i r hi).2.2 b aw).1 hu
  have F5 : ∀ b, s.free A ad b → b < w.heap.size → (s.over aH).free (fun b => (s.free A ad b ∧ b < w.heap.size) ∨ cA b ∨ w'.heap.size ≤ b) (fun k => match aH k with | some _ => bg k | none => ad k) b := by
    intro b au an;refine ⟨.inl ⟨au, an⟩, fun k cs af => ?_⟩;rcases jC (show bZ aH s.mem k = some cs from af) with h | ⟨h, aC⟩
    · simp only [h]
      intro e;rcases cF b (.inl ⟨k, cs, h, e⟩) with q | q
      · exact rW b au q
      · omega
    · simp only [h]; exact au.2 k cs aC
  have F6 : ∀ b, cA b → (s.over aH).free (fun b => (s.free A ad b ∧ b < w.heap.size) ∨ cA b ∨ w'.heap.size ≤ b) (fun k => match aH k with | some _ => bg k | none => ad k) b := by
    intro b hu;refine ⟨.inr (.inl hu), fun k cs af => ?_⟩;rcases jC (show bZ aH s.mem k = some cs from af) with h | ⟨h, aC⟩
    · simp only [h]
      intro e;exact Gu b hu (.inl ⟨k, cs, h, e⟩)
    · simp only [h]
      intro e;subst e;rcases cE _ hu with q | q | q
      · exact q.2 k cs aC rfl
      · have := ay.rel.lt aC; omega
      · exact zI k cs h aC q
  have dU : (s.over aH).cN := by
    have zv : ∀ j, (∃ cs, s.mem j = some cs) → ∃ cs, (s.over aH).mem j = some cs := by
      rintro j ⟨cs, h⟩;show ∃ cs, bZ aH s.mem j = some cs;cases fR : aH j with
      | some c => exact ⟨c, hf fR⟩
      | none => exact ⟨cs, by rw [hg fR]; exact h⟩
    refine ⟨fun t av j aE ae => zv j (ok.gK t av j aE ae), fun k cs x j af aa ae => ?_⟩;rcases jC (show bZ aH s.mem k = some cs from af) with h | ⟨h, aC⟩
    · obtain ⟨c, ak⟩ := cK.fE k cs x j h aa ae
      exact ⟨c, hf ak⟩
    · exact zv j (ok.du k cs x j aC aa ae)
  have aaC : ∀ k cs, m0 k = some cs → ec bg aH az (ad k) := fun k cs af => by
    obtain ⟨e, ar, h⟩ := bA k cs af;exact .inl ⟨k, ar, h, e⟩
  have MC : ∀ b, ec ad m0 R0 b → ¬ br.F b := by
    rintro b (⟨k, cs, af, rfl⟩ | ⟨i, r, hi, aw⟩)
    · exact ay.ov k cs (hm k cs af)
    · exact (ay.hot i r b (aq i r hi) aw).1
  have Ox : ∀ b, w.heap.size ≤ b → ¬ br.F b := fun b h au => by have := br.lt b au; have := ay.below.size; omega
  refine ⟨⟨ay.up, ?_, ?_, fun k cs af au => ?_, ⟨ab.os.trans ay.below.os, ab.tape.trans ay.below.tape, ab.output.trans ay.below.output, ln ay.below.size ab.size, fun b au => ?_⟩, fun i r hi => ?_, fun i j r q hi ae gg g aw => ?_, fun i r g hi aw => ?_, fun k b af => ?_⟩, F6, dU⟩
  · rintro b (h | h | h)
    · exact ay.sub b h.1.1
    · rcases cE b h with q | q | ⟨k, cs, af, rfl⟩ | ⟨i, r, hi, aw⟩
      · exact ay.sub b q.1
      · exact ay.up b (ln ay.below.size q)
      · exact absurd (aaC k cs af) (Gu _ h)
      · exact (ay.hot i r b (aq i r hi) aw).2
    · exact ay.up b (by have := ay.below.size; omega)
  · refine ⟨ay.rel.pD, ay.rel.size, fun t av aE => ?_, fun k cs af => ?_, fun k k' cs ar af eJ e => ?_, jK.refl _, fun b h => .inr (.inr h), wJ _ _ _⟩
    · obtain ⟨v, h1, h2⟩ := ay.rel.gK t av aE
      exact ⟨v, h1, h2.map (fun b au an => ⟨F5 b au an, uS b an (rW b au)⟩) fun j ae => iY j (ok.gK t av j aE ae)⟩
    · rcases jC (show bZ aH s.mem k = some cs from af) with h | ⟨h, aC⟩
      · obtain ⟨vs, ty, h1, h2, _⟩ := cK.du k cs h
        refine ⟨vs, ty, by simp only [h]; exact h1, h2.map (fun b hu _ => ⟨F6 b hu, rfl⟩) fun j x aa ae => ?_, fun au => au.2 k cs af rfl⟩;obtain ⟨c, ak⟩ := cK.fE k cs x j h aa ae;exact YO j c ak
      · obtain ⟨vs, ty, h1, h2, _⟩ := ay.rel.du k cs aC
        refine ⟨vs, ty, by simp only [h]; rw [uS _ (ay.rel.lt aC) (zI k cs h aC)]; exact h1, h2.map (fun b au an => ⟨F5 b au an, uS b an (rW b au)⟩) fun j x aa ae => iY j (ok.du k cs x j aC aa ae), fun au => au.2 k cs af rfl⟩
    · rcases jC (show bZ aH s.mem k = some cs from af) with h | ⟨h, aC⟩
      · rcases jC (show bZ aH s.mem k' = some ar from eJ) with g | ⟨g, iU⟩
        · simp only [h, g] at e
          exact cK.inj k k' cs ar h g e
        · simp only [h, g] at e
          rcases cF _ (.inl ⟨k, cs, h, e⟩) with q | q
          · exact absurd q (zI k' ar g iU)
          · have := ay.rel.lt iU; omega
      · rcases jC (show bZ aH s.mem k' = some ar from eJ) with g | ⟨g, iU⟩
        · simp only [h, g] at e
          rcases cF _ (.inl ⟨k', ar, g, e.symm⟩) with q | q
          · exact absurd q (zI k cs h aC)
          · have := ay.rel.lt aC; omega
        · simp only [h, g] at e
          exact ay.rel.inj k k' cs ar aC iU e
  · rcases jC (show bZ aH s.mem k = some cs from af) with h | ⟨h, aC⟩
    · simp only [h] at au
      rcases cF _ (.inl ⟨k, cs, h, rfl⟩) with q | q
      · exact MC _ q au
      · exact Ox _ q au
    · simp only [h] at au
      exact ay.ov k cs aC au
  · exact (uS b (tY (br.lt b au) ay.below.size) fun h => MC b h au).trans (ay.below.block b au)
  · rcases jC hi with h | ⟨h, aC⟩
    · obtain ⟨lg, ak, aw⟩ := cK.rows i r h
      refine ⟨lg.kept ak (fun _ _ => rfl) (dL _) (fun b hu _ => ⟨F6 b hu, rfl⟩), ak, fun g q => ?_⟩;have aY : ec bg aH az g := .inr ⟨i, r, h, q⟩;refine ⟨?_, fun k cs af => ?_⟩
      · rintro (z | z | z)
        · rcases cF g aY with y | y
          · exact rW g z.1 y
          · omega
        · exact Gu g z aY
        · have := CI g aY; omega
      · rcases jC (show bZ aH s.mem k = some cs from af) with y | ⟨y, y'⟩
        · simp only [y]; exact (aw g q).2 k cs y
        · simp only [y]
          intro e;subst e;rcases cF _ aY with z | z
          · exact zI k cs y y' z
          · have := ay.rel.lt y'; omega
    · obtain ⟨lg, ak, aw⟩ := ay.rows i r aC
      refine ⟨lg.kept ak (fun g q => uS g (xv i r aC g q) (Ae i r h aC g q)) bQ (fun b au c5 => ⟨F5 b au c5, uS b c5 (rW b au)⟩), ak, fun g q => ⟨?_, fun k cs af => ?_⟩⟩
      · rintro (z | z | z)
        · exact (aw g q).1 z.1.1
        · rcases cE g z with y | y | y
          · exact (aw g q).1 y.1
          · have := xv i r aC g q; omega
          · exact Ae i r h aC g q y
        · have := xv i r aC g q; omega
      · rcases jC (show bZ aH s.mem k = some cs from af) with y | ⟨y, y'⟩
        · simp only [y]
          intro e;rcases cF g (.inl ⟨k, cs, y, e⟩) with z | z
          · exact Ae i r h aC g q z
          · have := xv i r aC g q; omega
        · simp only [y]; exact (aw g q).2 k cs y'
  · rcases jC hi with h | ⟨h, aC⟩
    · rcases jC ae with y | ⟨y, y'⟩
      · exact cK.apart i j r q h y gg g aw
      · intro al
        rcases cF g (.inr ⟨i, r, h, aw⟩) with z | z
        · exact Ae j q y y' g al z
        · have := xv j q y' g al; omega
    · rcases jC ae with y | ⟨y, y'⟩
      · intro al
        rcases cF g (.inr ⟨j, q, y, al⟩) with z | z
        · exact Ae i r h aC g aw z
        · have := xv i r aC g aw; omega
      · exact ay.apart i j r q aC y' gg g aw
  · rcases jC hi with h | ⟨h, aC⟩
    · rcases cF g (.inr ⟨i, r, h, aw⟩) with (⟨k, cs, af, e⟩ | ⟨j, q, ae, al⟩) | z
      · obtain ⟨bu, ar, aG⟩ := bA k cs af
        exact absurd (bu.trans e) (((cK.rows i r h).2.2 g aw).2 k ar aG)
      · exact ay.hot j q g (aq j q ae) al
      · exact ⟨Ox g z, ay.up g (by have := ay.below.size; omega)⟩
    · exact ay.hot i r g aC aw
  · obtain ⟨h1, h2⟩ := ay.jQ k b af
    refine ⟨h1, ?_⟩;cases fR : aH k with
    | none => exact h2
    | some c =>
      rcases f1 k c fR with ⟨cs, aG⟩ | aG
      · exact (bA k cs aG).1.trans h2
      · exact absurd (fn k c fR aG) (Nat.not_lt.2 h1)
structure ui (P : Program) (T : Nat → Bool) (R : aJ) (s : aD) (o : Oper) (K : aJ → aD → Prop) : Prop where
  ex : ∃ f args m0 R0 Post, sP P s.look o f args ∧ dn P f args m0 R0 Post ∧ (∀ x ∈ args, ∀ j, x.owns j → ∃ cs, m0 j = some cs) ∧ (∀ k cs, m0 k = some cs → s.mem k = some cs ∧ (T k = true ∨ ∀ r aH az, Post r aH az → aH k = some cs)) ∧ bH R0 R ∧ (∀ k cs x j, m0 k = some cs → x ∈ cs → x.owns j → ∃ ar, m0 j = some ar) ∧
    ∀ r aH az, Post r aH az → (∀ j, r.owns j → ∃ cs, aH j = some cs) → (∀ k cs x j, aH k = some cs → x ∈ cs → x.owns j → ∃ ar, aH j = some ar) → (∀ k cs, m0 k = some cs → ∃ ar, aH k = some ar) →
      (∀ k ar, aH k = some ar → (∃ cs, m0 k = some cs) ∨ (s.mem k = none ∧ k < s.n)) ∧ K (bZ az R) ((s.over aH).put o.dst r)
theorem aD.cN.abK {aH : Mem} (ok : s.cN) (fE : ∀ k cs x j, aH k = some cs → x ∈ cs → x.owns j → ∃ ar, aH j = some ar) : (s.over aH).cN := by
  have zv : ∀ j, (∃ cs, s.mem j = some cs) → ∃ cs, (s.over aH).mem j = some cs := by
    rintro j ⟨cs, h⟩;show ∃ cs, bZ aH s.mem j = some cs;cases fR : aH j with
    | some c => exact ⟨c, hf fR⟩
    | none => exact ⟨cs, by rw [hg fR]; exact h⟩
  refine ⟨fun t av j aE ae => zv j (ok.gK t av j aE ae), fun k cs x j af aa ae => ?_⟩;rcases jC (show bZ aH s.mem k = some cs from af) with h | ⟨h, aC⟩
  · obtain ⟨c, ak⟩ := fE k cs x j h aa ae
    exact ⟨c, hf ak⟩
  · exact zv j (ok.du k cs x j aC aa ae)
theorem aD.cN.Ic {aH : Mem} {r : ai} (ok : s.cN) (fE : ∀ k cs x j, aH k = some cs → x ∈ cs → x.owns j → ∃ ar, aH j = some ar) (iE : ∀ j, r.owns j → ∃ cs, aH j = some cs) (dst : Option Nat) : ((s.over aH).put dst r).cN :=
  (ok.abK fE).put fun j ae => by
    obtain ⟨c, ak⟩ := iE j ae;exact ⟨c, hf ak⟩
theorem ui.mono {K iu : aJ → aD → Prop} (ok : s.cN) {T : Nat → Bool} (h : ui P T R s o K) (dT : ∀ R s, s.cN → K R s → iu R s) : ui P T R s o iu := by
  obtain ⟨f, args, m0, R0, Post, ak, hp, ax, hm, aq, fE, af⟩ := h.ex;refine ⟨f, args, m0, R0, Post, ak, hp, ax, hm, aq, fE, fun r aH az h1 h2 ap aL => ?_⟩;obtain ⟨f1, k⟩ := af r aH az h1 h2 ap aL;exact ⟨f1, dT _ _ (ok.Ic ap h2 _) k⟩
theorem ui.sound {K : aJ → aD → Prop} {T : Nat → Bool} (h : ui P T R s o K) (hd : ∀ d, o.dst = some d → d < s.n) (ay : ep br bY R s a w A ad) (ok : s.cN) {iu : Act → World → Prop} (dT : ∀ az s' a' w', s'.cN → oX br bY az s' a' w' → K az s' → iu a' w') : o.wp P a w iu Q := by
  obtain ⟨f, args, m0, R0, Post, ak, hp, ax, fR, aq, fE, af⟩ := h.ex;have hm : ∀ k cs, m0 k = some cs → s.mem k = some cs := fun k cs h => (fR k cs h).1;obtain ⟨us, dH, gp⟩ := ak.run ay.rel;unfold Oper.wp;rw [gp];refine (hp.call (s.free A ad) ad w us (ay.part hm aq fE) ax dH).mono ?_;rintro e w' ⟨v, r, aH, az, bg, cA, rfl, ju, cK, hv, iE, bA, b9, cE, cF, ab⟩;obtain ⟨f1, eJ⟩ := af r aH az ju iE cK.fE fun k cs h => (bA k cs h).2
  obtain ⟨cw, dy, dB⟩ := ay.called ok hm aq cK bA b9 (fun k c h => (f1 k c h).imp id And.left) (fun k c h aG => by
    rcases f1 k c h with ⟨cs, q⟩ | q
    · rw [hm k cs q] at aG; cases aG
    · exact q.2) cE cF ab
  have b4 : dc ((s.over aH).free (fun b => (s.free A ad b ∧ b < w.heap.size) ∨ cA b ∨ w'.heap.size ≤ b) (fun k => match aH k with | some _ => bg k | none => ad k)) (fun k => match aH k with | some _ => bg k | none => ad k) w' r v :=
    hv.map (fun b hu _ => ⟨dy b hu, rfl⟩) fun j ae => by
      obtain ⟨c, ak⟩ := iE j ae;simp only [ak]
  refine dT _ _ _ _ (dB.put fun j ae => ?_) ⟨_, _, cw.put (fun d' e => hd d' e) b4⟩ eJ;obtain ⟨c, ak⟩ := iE j ae;exact ⟨c, hf ak⟩
end
def v8 (o : Oper) : Bool := match o.op with
  | .call ⟨.builtin .append, _, _⟩ => true
  | .call ⟨.builtin .copy, _, _⟩ => true
  | _ => false
def uX (o : Oper) : Bool := match o.op with
  | .call ⟨.builtin .append, _, _⟩ => true
  | .call ⟨.builtin .copy, _, _⟩ => true
  | .buildSlice .. => true
  | .makeSlice .. => true
  | _ => false
def Ua (o : Oper) : Bool := match o.op with
  | .call ⟨.value _, _, _⟩ => true
  | _ => false
def aeT (o : Oper) : Bool := match o.op with
  | .store .. => true
  | _ => false
def dJ (dr : Option (List Nat)) (o : Oper) : Bool := (Ua o && match dr with
  | none => true
  | some hs => hs.contains (o.dst.getD 1000000)) || (aeT o && match dr with
  | none => false
  | some hs => hs.contains 4000000)
def Qx (dr : Option (List Nat)) (o : Oper) : Bool := match dr with
  | none => true
  | some _ => dJ dr o
def rE (dr : Option (List Nat)) (o : Oper) : Bool := match dr with
  | none => false
  | some hs => hs.contains (3000000 + o.dst.getD 0)
def oP (dr : Option (List Nat)) (k : Nat) : Bool := match dr with
  | none => true
  | some hs => hs.contains (2000000 + k)
def qB (dr : Option (List Nat)) (look : Operand → Option ai) (o : Oper) : Bool := match dr with
  | none => true
  | some hs => bif hs.isEmpty then true else match o.op with
    | .load _ x => match look x with
      | some (.w (.one (.own k _))) => !hs.contains (2000000 + k)
      | _ => true
    | _ => true
def kT (o : Oper) : Bool := match o.op with
  | .store .. => true
  | .alloc _ => true
  | .box .. => true
  | _ => false
def z8 (ops : Array Oper) (hs : List Nat) (dst : Option Nat) : Bool := (List.range ops.size).all fun k => match ops[k]? with
  | some ok => !(ok.dst == dst) || (List.range ops.size).all fun j => match ops[j]? with
    | some bk => !(v8 bk || dJ (some hs) bk) || waits .any ops 8 j k
    | none => true
  | none => true
def tZ (ops : Array Oper) (dr : Option (List Nat)) (dst : Option Nat) : Bool := match dr with
  | none => true
  | some hs => z8 ops hs dst
inductive rk (P : Program) (ops : Array Oper) (dr : Option (List Nat)) (R : aJ) (s : aD) (o : Oper) : Bool → ck → Prop
  | kG (b : Bool) (e : ck) (h : eQ P s.n s.look s.mem o b e) (aE : qB dr s.look o = true) : rk P ops dr R s o b e
  | read (av : ai) (h : kB P R s.look o av) (ak : av.closed) (aq : tZ ops dr o.dst = true) : rk P ops dr R s o true ⟨av, none⟩
def uM (P : Program) (ops : Array Oper) (dr : Option (List Nat)) (o : Oper) (K : aJ → aD → Prop) (R : aJ) (s : aD) : Prop :=
  ∃ b, want ops o s = some b ∧ (∀ d, o.dst = some d → d < s.n) ∧ ((∃ e, rk P ops dr R s o b e ∧ K R (e.on o.dst s)) ∨ (b = true ∧ ∃ d f, ∃ ia : Value → Prop, o.dst = some d ∧ (kC P R s.look o f ia ∧ rE dr o = false) ∧ ∀ aZ : Value, ia aZ → K (f aZ) (s.put (some d) (aQ aZ))) ∨ (b = true ∧ Qx dr o = true ∧ ∃ az, o.dst = none ∧ sQ P R s.look o az ∧ K az s) ∨
    (b = true ∧ dr = none ∧ ∃ d f i, ∃ g : Value → bL, o.dst = some d ∧ kC P R s.look o f Bb ∧ (∀ aZ, f aZ i = some (g aZ) ∧ (g aZ).v = aZ ∧ 0 < (g aZ).sz) ∧ ∀ aZ : Value, aZ.oneCell' = true → K (fun j => if j = i then none else f aZ j) (s.put (some d) (cI (g aZ).sz (g aZ).n (g aZ).aV))) ∨
    (b = true ∧ dJ dr o = true ∧ ui P (oP dr) R s o K) ∨
    (b = true ∧ dJ dr o = true ∧ ui P (oP dr) R s o fun az s' => ∃ i d r, o.dst = some d ∧ az i = some r ∧ 0 < r.sz ∧ s'.tmps d = some (aQ r.v) ∧ d < s'.n ∧ K (fun j => if j = i then none else az j) (s'.put (some d) (cI r.sz r.n r.aV))))
def cL (P : Program) (ops : Array Oper) (dr : Option (List Nat)) (K : aJ → aD → Prop) : List Oper → aJ → aD → Prop
  | [], R, s => K R s
  | o :: rest, R, s => uM P ops dr o (cL P ops dr K rest) R s
def wH (P : Program) (md : Region.Mode) (ops : Array Oper) (hs : List Nat) (K : aJ → aD → Prop) : Nat → Array Bool → aJ → aD → Prop
  | 0, bw, R, s => Region.ready md ops bw = [] ∧ K R s
  | fa + 1, bw, R, s => (Region.ready md ops bw = [] → K R s) ∧
    ∀ i ∈ Region.ready md ops bw, ∀ o, ops[i]? = some o → uM P ops (some hs) o (wH P md ops hs K fa (bw.setIfInBounds i true)) R s
section
variable {P : Program} {br : eS} {bY A : Nat → Prop} {R : aJ} {s s' : aD} {a a' : Act} {w w' : World} {ad bg : Nat → Nat} {o bm bk : Oper} {ops : Array Oper} {md : Region.Mode} {dr : Option (List Nat)} {hs : List Nat}
theorem rk.ok {b : Bool} {e : ck} (ok : s.cN) (h : rk P ops dr R s o b e) (hd : ∀ d, o.dst = some d → d < s.n) : (e.on o.dst s).cN := by
  cases h with
  | kG b e h aE => exact yq ok h hd
  | read av h ak aq => exact ok.put fun j ae => absurd ae (ak j)
theorem Iq (ok : s.cN) (d : Nat) (v : Value) : (s.put (some d) (aQ v)).cN := ok.put fun j ae => absurd ae (iJ v j)
theorem LZ {K iu : aJ → aD → Prop} (ok : s.cN) (h : ∀ R s, s.cN → K R s → iu R s) (aY : uM P ops dr o K R s) : uM P ops dr o iu R s := by
  obtain ⟨b, hw, hd, h1 | ⟨ab, d, f, ia, dt, au, af⟩ | ⟨ab, ob, az, dt, au, af⟩ | ⟨ab, ob, d, f, i, g, dt, au, aw, af⟩ | ⟨ab, hm, ak⟩ | ⟨ab, hm, ak⟩⟩ := aY
  · obtain ⟨e, he, af⟩ := h1
    exact ⟨b, hw, hd, .inl ⟨e, he, h _ _ (he.ok ok hd) af⟩⟩
  · exact ⟨b, hw, hd, .inr (.inl ⟨ab, d, f, ia, dt, au, fun aZ hv => h _ _ (Iq ok d aZ) (af aZ hv)⟩)⟩
  · exact ⟨b, hw, hd, .inr (.inr (.inl ⟨ab, ob, az, dt, au, h _ _ ok af⟩))⟩
  · exact ⟨b, hw, hd, .inr (.inr (.inr (.inl ⟨ab, ob, d, f, i, g, dt, au, aw, fun aZ hv => h _ _ (ok.put fun j ae => absurd ae (lh _ j)) (af aZ hv)⟩)))⟩
  · exact ⟨b, hw, hd, .inr (.inr (.inr (.inr (.inl ⟨ab, hm, ak.mono ok h⟩))))⟩
  · refine ⟨b, hw, hd, .inr (.inr (.inr (.inr (.inr ⟨ab, hm, ak.mono ok fun R s abC af => ?_⟩))))⟩
    obtain ⟨i, d, r, aG, h1, a6, h2, ap, aL⟩ := af;exact ⟨i, d, r, aG, h1, a6, h2, ap, h _ _ (abC.put fun j ae => absurd ae (lh _ j)) aL⟩
theorem ep.uE (ay : ep br bY R s a w A ad) (i d : Nat) (r : bL) (hi : R i = some r) (bQ : 0 < r.sz) (Xs : s.tmps d = some (aQ r.v)) (fP : d < s.n) : ∃ ei, ep br bY (fun j => if j = i then none else R j) (s.put (some d) (cI r.sz r.n r.aV)) a w ei ad := by
  obtain ⟨od, cO, aw⟩ := ay.rows i r hi;obtain ⟨xs, ax, an⟩ := od.row bQ;have yG : ∀ b, s.free A ad b → b < w.heap.size → s.free (fun b => A b ∨ r.v.ownBlock = some b) ad b ∧ w.heap[b]? = w.heap[b]? := fun b ab _ => ⟨⟨.inl ab.1, ab.2⟩, rfl⟩;have Gr : Rel (nh br s ad w) (fun b => A b ∨ r.v.ownBlock = some b) s ad a w := ay.rel.x9 (fun b ab _ => ⟨.inl ab, rfl⟩) (fun k cs af => ⟨rfl, fun au => au.2 k cs af rfl⟩) (jK.refl _) (fun b ab => .inl (ay.rel.up b ab)) (wJ _ _ _)
  have wI : ep br bY (fun j => if j = i then none else R j) s a w (fun b => A b ∨ r.v.ownBlock = some b) ad := by
    refine ⟨ay.up, ?_, Gr, ay.ov, ay.below, fun j q ae => ?_, fun j k q cy ae af kM => ?_, fun j q g ae => ?_, ay.jQ⟩
    · rintro b (ab | ab)
      · exact ay.sub b ab
      · exact (ay.hot i r b hi (.inl ab)).2
    · have gh : j ≠ i := fun e => by rw [if_pos e] at ae; cases ae
      rw [if_neg gh] at ae;obtain ⟨lg, Au, Av⟩ := ay.rows j q ae;refine ⟨lg.kept Au (fun _ _ => rfl) (dL _) yG, Au, fun g eu => ⟨?_, (Av g eu).2⟩⟩;rintro (ab | ab)
      · exact (Av g eu).1 ab
      · exact ay.apart i j r q hi ae (Ne.symm gh) g (.inl ab) eu
    · have gh : j ≠ i := fun e => by rw [if_pos e] at ae; cases ae
      have kn : k ≠ i := fun e => by rw [if_pos e] at af; cases af
      rw [if_neg gh] at ae;rw [if_neg kn] at af;exact ay.apart j k q cy ae af kM
    · have gh : j ≠ i := fun e => by rw [if_pos e] at ae; cases ae
      rw [if_neg gh] at ae;exact ay.hot j q g ae
  have Gs : Rel (nh br s ad w) (fun b => A b ∨ r.v.ownBlock = some b) (s.put (some d) (cI r.sz r.n r.aV)) ad a w := by
    refine wI.rel.P0 Xs fun v iF mG => ?_;obtain ⟨rfl, Gf⟩ := mG;have nk := an.1;obtain ⟨kN, aF | ⟨g, cap, cur, kl, qp, uQ, eK, jq, et, nt⟩⟩ := id ax
    · obtain ⟨aI, aN⟩ := aF
      have : r.aV = [] := mq (by rw [nk, kN, aN]; simp);rw [aI];exact ⟨⟨none, 0, by rw [aN], by omega, by rw [this, aN]; simp, fun h => absurd h (by omega)⟩, fun b ⟨c', a', q, aF, ab⟩ => by cases q⟩
    · have ts := ax.cells (g := g) (by rw [kl]; rfl)
      rw [kl];have qn : kA w ⟨g, 0, none⟩ r.aV xs := ⟨(ku.1 uQ).1, an.wo cO fun b _ _ => ⟨trivial, rfl⟩, ts, cO⟩;refine ⟨⟨some ⟨g, 0, none⟩, cap, rfl, eK, by rw [nk]; exact kN, fun aF => ⟨⟨g, 0, none⟩, xs, rfl, qn⟩⟩, ?_⟩;rintro b ⟨c', a', q, aF, au⟩;cases q;rcases au with rfl | ⟨j, y, v, ag, hv, gf⟩
      · exact ⟨.inr rfl, (aw g (.inl (by rw [kl]; rfl))).2⟩
      · have bi : j < xs.length := by rw [← nk]; exact (bS.1 ag).1
        have h2 := ts j _ (cm bi);rw [hv] at h2;cases h2;have ap := an.2 j y _ ag (cm bi);cases y with
        | c u => cases gf
        | own k o => cases gf
        | p S => have := ap.2 b gf; exact ⟨.inl this.1, this.2⟩
  exact ⟨_, wI.next (s' := s.put (some d) (cI r.sz r.n r.aV)) (a' := a) (w' := w) (bg := ad) Gs⟩
theorem zY (s : aD) (d : Nat) (u v : ai) : (s.put (some d) u).put (some d) v = s.put (some d) v := by
  simp only [aD.put, aD.mk.injEq, true_and, and_true];funext j
  by_cases e : j = d
  · subst e; rw [cr, cr]
  · rw [cj _ _ e, cj _ _ e, cj _ _ e]
theorem L0 {ro : Option Nat} {K : aJ → aD → Prop} {iu : Act → World → Prop} {Q : Exit → Act → World → Prop} {i : Nat} (hi : ops[i]? = some o) (ok : s.cN) (ay : oX br bY R s a w) (h : uM P ops dr o K R s)
    (dT : ∀ az s' a' w', s'.cN → oX br bY az s' a' w' → K az s' → iu a' w') : wpOpIn (l3 ro) 0 P ops Q i iu a w := by
  obtain ⟨A, ad, ay⟩ := ay;obtain ⟨b, hw, hd, h⟩ := h;have oi := Q6 hw ay.rel;unfold wpOpIn;simp only [hi];cases b with
  | true =>
    rw [oi];simp only [if_true];refine Oper.Q8 ?_ ?nd
    case nd =>
      rcases h with ⟨e, he, _⟩ | ⟨_, d, f, ia, dt, ⟨au, _⟩, _⟩ | ⟨_, _, az, dt, au, _⟩ | ⟨_, _, d, f, i, g, dt, au, _⟩ | ⟨_, _, ak⟩ | ⟨_, _, ak⟩
      · cases he with
        | kG b e he _ => exact (he.step hd).OC ay.rel
        | read av h ak aq =>
          obtain ⟨v, h1, h2⟩ := h.sound ay;exact xg h1 (fun d h => by cases h)
      · obtain ⟨aZ, w2, ei, h1, _⟩ := au.sound ay (hd d dt)
        exact xg h1 (fun d h => by cases h)
      · obtain ⟨w2, ei, h1, _⟩ := au.sound ay
        exact xg h1 (fun d h => by cases h)
      · obtain ⟨aZ, w2, ei, h1, _⟩ := au.sound ay (hd d dt)
        exact xg h1 (fun d h => by cases h)
      · obtain ⟨f, args, m0, R0, Post, ⟨⟨c', g, ax, _⟩, _⟩, _⟩ := ak.ex
        intro c ni; rw [ax] at ni; cases ni
      · obtain ⟨f, args, m0, R0, Post, ⟨⟨c', g, ax, _⟩, _⟩, _⟩ := ak.ex
        intro c ni; rw [ax] at ni; cases ni
    rcases h with ⟨e, he, af⟩ | ⟨_, d, f, ia, dt, ⟨au, _⟩, af⟩ | ⟨_, _, az, dt, au, af⟩ | ⟨_, _, d, f, i, g, dt, au, aw, af⟩ | ⟨_, _, ak⟩ | ⟨_, _, ak⟩
    · have dB := he.ok ok hd
      cases he with
      | kG b e he _ => exact Oper.wp_mono (fun a' w' ⟨bg, aq⟩ => dT _ _ a' w' dB ⟨A, bg, ay.next aq⟩ af) (k0.sound (he.step hd) ay.rel ok)
      | read av h ak aq =>
        obtain ⟨v, h1, h2⟩ := h.sound ay;exact Oper.vF h1 (dT _ _ _ _ dB ⟨A, ad, ay.put hd h2⟩ af)
    · obtain ⟨aZ, w2, ei, h1, h2, ap⟩ := au.sound ay (hd d dt)
      refine Oper.vF h1 ?_;rw [dt];exact dT _ _ _ _ (Iq ok d aZ) ⟨ei, ad, ap⟩ (af aZ h2)
    · obtain ⟨w2, ei, h1, h2⟩ := au.sound ay
      unfold Oper.wp;rw [h1, Oper.upon_skip, dt];exact dT _ _ _ _ ok ⟨ei, ad, h2⟩ af
    · have fP := hd d dt
      obtain ⟨aZ, w2, ei, h1, h2, ap⟩ := au.sound ay fP;refine Oper.vF h1 ?_;rw [dt];obtain ⟨nR, aL⟩ := ap.uE i d (g aZ) (aw aZ).1 (aw aZ).2.2 (by rw [(aw aZ).2.1]; exact cr _ _ _) fP;rw [zY] at aL;exact dT _ _ _ _ (ok.put fun j ae => absurd ae (lh _ j)) ⟨nR, ad, aL⟩ (af aZ h2)
    · exact ak.sound hd ay ok dT
    · refine ak.sound hd ay ok fun az s' a' w' dB cw af => ?_
      obtain ⟨i, d, r, _, h1, a6, h2, ap, aL⟩ := af;obtain ⟨nR, AE, wI⟩ := cw;obtain ⟨q4, Gs⟩ := wI.uE i d r h1 a6 h2 ap;exact dT _ _ _ _ (dB.put fun j ae => absurd ae (lh _ j)) ⟨q4, AE, Gs⟩ aL
  | false =>
    rw [oi];simp only [nG, if_false];rcases h with ⟨e, he, af⟩ | ⟨h, _⟩ | ⟨h, _⟩ | ⟨h, _⟩ | ⟨h, _⟩ | ⟨h, _⟩
    · have dB := he.ok ok hd
      cases he with
      | kG b e he _ =>
        cases he;exact ⟨fun _ _ => trivial, dT _ _ _ _ dB ⟨A, ad, ay.put hd (dc.undef _)⟩ af⟩
    · cases h
    · cases h
    · cases h
    · cases h
    · cases h
theorem eQ.BO {n : Nat} {look gi : Operand → Option ai} {mem : Nat → Option (List AC)} {b : Bool} {e : ck} (h : eQ P n look mem o b e) (el : ∀ x ∈ o.op.operands, gi x = look x) : eQ P n gi mem o b e := by
  cases h with
  | skip => exact .skip
  | quiet av al => exact .quiet av (al.congr el)
  | fresh av al => exact .fresh av (al.congr el)
  | load ty x k off cs av ax aa hm hv => exact .load ty x k off cs av ax (by rw [el x (by simp [ax, Op.operands])]; exact aa) hm hv
  | store ty x y k off cs z i ax aa ag hm hi hs ab => exact .store ty x y k off cs z i ax (by rw [el x (by simp [ax, Op.operands])]; exact aa) (by rw [el y (by simp [ax, Op.operands])]; exact ag) hm hi hs ab
  | new cs d dt hm aF => exact .new cs d dt hm (aF.congr el)
  | call g args r ak hp => exact .call g args r (ak.congr el) hp
theorem kC.ext {look : Operand → Option ai} {f : Value → aJ} {ia : Value → Prop} (h : kC P R look o f ia) (aF : v8 o = false) (v : Value) : bH R (f v) := by
  cases h with
  | uA i r tt bytes m jh jI news hi ax => simp [v8, ax] at aF
  | copy i r tt t2 m lo hi x y news de bQ ax => simp [v8, ax] at aF
  | new i t n e sz bytes parts vs zs r hi =>
    intro j q ae;have : j ≠ i := fun e => by subst e; rw [hi] at ae; cases ae
    show bM R i _ j = some q;rw [cj _ _ this]; exact ae
  | make i t l c e sz bytes x y ou pC vs hi =>
    intro j q ae;have : j ≠ i := fun e => by subst e; rw [hi] at ae; cases ae
    show bM R i _ j = some q;rw [cj _ _ this]; exact ae
theorem eQ.OD {n : Nat} {look : Operand → Option ai} {mem : Nat → Option (List AC)} {b : Bool} {e : ck} (h : eQ P n look mem o b e) (hm : kT o = false) : e.m = none := by
  cases h with
  | skip => rfl
  | quiet av al => rfl
  | fresh av al => rfl
  | load ty x k off cs av ax aa fR hv => rfl
  | store ty x y k off cs z i ax aa ag fR hi hs ab => simp [kT, ax] at hm
  | new cs d dt fR aF =>
    cases aF with
    | alloc ty i z cs ax => simp [kT, ax] at hm
    | box ty x z ax => simp [kT, ax] at hm
  | call g args r ak hp => rfl
theorem eQ.OE {n : Nat} {look : Operand → Option ai} {mem N4 : Nat → Option (List AC)} {b : Bool} {e : ck} (h : eQ P n look mem o b e) (hm : kT o = false) (XW : ∀ ty x k off cs, o.op = .load ty x → look x = some (.w (.one (.own k off))) → mem k = some cs → N4 k = some cs) : eQ P n look N4 o b e := by
  cases h with
  | skip => exact .skip
  | quiet av al => exact .quiet av al
  | fresh av al => exact .fresh av al
  | load ty x k off cs av ax aa fR hv => exact .load ty x k off cs av ax aa (XW ty x k off cs ax aa fR) hv
  | store ty x y k off cs z i ax aa ag fR hi hs ab => simp [kT, ax] at hm
  | new cs d dt fR aF =>
    cases aF with
    | alloc ty i z cs ax => simp [kT, ax] at hm
    | box ty x z ax => simp [kT, ax] at hm
  | call g args r ak hp => exact .call g args r ak hp
theorem zz {look gi : Operand → Option ai} (h : qB dr look o = true) (e : ∀ x ∈ o.op.operands, gi x = look x) : qB dr gi o = true := by
  unfold qB at h ⊢;cases dr with
  | none => rfl
  | some hs =>
    simp only at h ⊢;cases he : hs.isEmpty with
    | true => rfl
    | false =>
      rw [he] at h;simp only [cond_false] at h ⊢;cases ax : o.op with
      | load ty x =>
        rw [ax] at h;simp only at h ⊢;rw [e x (by simp [ax, Op.operands])]; exact h
      | _ => rfl
theorem NI {hs : List Nat} {look : Operand → Option ai} {ty : TypeId} {x : Operand} {k off : Nat} (h : qB (some hs) look o = true) (ax : o.op = .load ty x) (aa : look x = some (.w (.one (.own k off)))) : oP (some hs) k = false := by
  unfold qB at h;simp only at h;cases he : hs.isEmpty with
  | true =>
    have : hs = [] := List.isEmpty_iff.1 he;subst this; rfl
  | false =>
    rw [he] at h;simp only [cond_false, ax, aa, so] at h;exact h
theorem sQ.congr {look gi : Operand → Option ai} {az : aJ} (h : sQ P R look o az) (e : ∀ x ∈ o.op.operands, gi x = look x) : sQ P R gi o az := by
  cases h with
  | store i r off ty x y z ez hi aF ax aa ag aE hs ab ak => exact .store i r off ty x y z ez hi aF ax (by rw [e x (by simp [ax, Op.operands])]; exact aa) (by rw [e y (by simp [ax, Op.operands])]; exact ag) aE hs ab ak
theorem WT {b : Bool} {e : ck} {K : aJ → aD → Prop} (ok : s.cN) (hw : want ops bm s = some b) (he : rk P ops (some hs) R s bm b e) (tu : ∀ d, bm.dst = some d → d < s.n) (pq : bm.apart ops bk = true) (l9 : xR s bm bk) (wY : z8 ops hs bm.dst = true → v8 bk = false ∧ dJ (some hs) bk = false) (yY : kT bm = true → dJ (some hs) bk = false) (h : uM P ops (some hs) bk K R (e.on bm.dst s)) :
    uM P ops (some hs) bk (fun az t => (∃ (f : ck) (du : Mem), t = f.on bk.dst { s with mem := du }) ∧ (want ops bm t = some b ∧ rk P ops (some hs) az t bm b e ∧ (∀ d, bm.dst = some d → d < t.n) ∧ t.cN) ∧ K az (e.on bm.dst t)) R s := by
  obtain ⟨a1, a2, a3⟩ := Oper.apart_spec pq;obtain ⟨c, r1, qq, aY⟩ := h;rw [xF (b := none) a1] at r1;have uO : ∀ d, bk.dst = some d → d < s.n := fun d hd => by have := qq d hd; rwa [ck.tS] at this
  have mg : ∀ x ∈ bk.op.operands, (e.on bm.dst s).look x = s.look x := fun x aa => ck.qF _ _ _ fun d hd => tH (a1 d hd) aa;have kS : ∀ (f : ck), ∀ x ∈ bm.op.operands, (f.on bk.dst s).look x = s.look x := fun f x aa => ck.qF _ _ _ fun d hd => tH (a3 d hd) aa;have wi : ∀ f : ck, want ops bm (f.on bk.dst s) = some b := fun f => by rw [xF (b := none) a3]; exact hw
  have oA : ∀ f : ck, ∀ d, bm.dst = some d → d < (f.on bk.dst s).n := fun f d hd => by rw [ck.tS]; exact tu d hd
  have KM : ∀ f : ck, f.m = none → f.on bk.dst (e.on bm.dst s) = e.on bm.dst (f.on bk.dst s) := fun f au => ck.zS e f bm.dst bk.dst s a2 fun k cs j ds _ h2 => by rw [au] at h2; cases h2
 
  have Qs : ∀ (az : aJ) (f : ck), f.m = none → (z8 ops hs bm.dst = true → bH R az) → rk P ops (some hs) az (f.on bk.dst s) bm b e := fun az f au an => by
    cases he with
    | kG b e he aE =>
      refine .kG _ _ ?_ (zz aE (kS f));rw [ck.tS, ck.qG, au];exact he.BO (kS f)
    | read av h ak aq => exact .read av ((h.rows (an aq)).congr (kS f)) ak aq
  refine ⟨c, r1, uO, ?_⟩;rcases aY with ⟨f, au, af⟩ | ⟨ab, d, f, ia, dt, au, af⟩ | ⟨ab, ob, Xr⟩ | ⟨_, ob, _⟩ | ⟨ab, hm, ak⟩ | ⟨ab, hm, ak⟩
  · left
    cases au with
    | kG c f au Yx =>
      have MT := zz Yx fun x aa => (mg x aa).symm;cases id he with
      | kG b e Xz e1 =>
        obtain ⟨h1, h2, ap⟩ := eQ.swap ok Xz au pq l9;exact ⟨f, .kG _ _ h1 MT, ⟨f, s.mem, rfl⟩, ⟨wi f, .kG _ _ h2 (zz e1 (kS f)), oA f, yq ok h1 uO⟩, by rw [← ap]; exact af⟩
      | read av h ak aq =>
        have h1 : eQ P s.n s.look s.mem bk c f := by
          have : eQ P s.n ((⟨av, none⟩ : ck).on bm.dst s).look s.mem bk c f := by
            have := au;rw [ck.tS, ck.qG] at this;exact this
          exact this.BO fun x aa => (mg x aa).symm
        refine ⟨f, .kG _ _ h1 MT, ⟨f, s.mem, rfl⟩, ⟨wi f, .read av (h.congr (kS f)) ak aq, oA f, yq ok h1 uO⟩, ?_⟩;have : f.on bk.dst ((⟨av, none⟩ : ck).on bm.dst s) = (⟨av, none⟩ : ck).on bm.dst (f.on bk.dst s) := ck.zS _ f bm.dst bk.dst s a2 fun k cs j ds h1 _ => by cases h1
        rw [← this]; exact af
    | read av aq ak Yl =>
      have h1 : kB P R s.look bk av := aq.congr fun x aa => (mg x aa).symm;refine ⟨⟨av, none⟩, .read av h1 ak Yl, ⟨⟨av, none⟩, s.mem, rfl⟩, ⟨wi _, Qs R _ rfl (fun _ => .refl R), oA _, ok.put fun j ae => absurd ae (ak j)⟩, ?_⟩;rw [← KM _ rfl]; exact af
  · right; left
    have h1 : kC P R s.look bk f ia := au.1.congr fun x aa => (mg x aa).symm;refine ⟨ab, d, f, ia, dt, ⟨h1, au.2⟩, fun aZ hv => ?_⟩;have aI : s.put (some d) (aQ aZ) = (⟨aQ aZ, none⟩ : ck).on bk.dst s := by rw [dt]; rfl
    have aN : (e.on bm.dst s).put (some d) (aQ aZ) = (⟨aQ aZ, none⟩ : ck).on bk.dst (e.on bm.dst s) := by rw [dt]; rfl
    have h2 := af aZ hv;have OT := Iq ok d aZ;rw [aN, KM _ rfl] at h2;rw [aI] at OT ⊢;exact ⟨⟨_, s.mem, rfl⟩, ⟨wi _, Qs (f aZ) _ rfl (fun aY => h1.ext (wY aY).1 aZ), oA _, OT⟩, h2⟩
  · obtain ⟨az, dt, au, af⟩ := Xr
    have hm : dJ (some hs) bk = true := ob
    have tx : kT bm = false := by
      cases aa : kT bm with
      | false => rfl
      | true => rw [yY aa] at hm; cases hm
    have l8 : eQ P s.n s.look s.mem bm b e ∧ qB (some hs) s.look bm = true := by
      cases he with
      | kG b e he aE => exact ⟨he, aE⟩
      | read av h ak aq => rw [(wY aq).2] at hm; cases hm
    have h1 : sQ P R s.look bk az := au.congr fun x aa => (mg x aa).symm;exact .inr (.inr (.inl ⟨ab, ob, az, dt, h1, ⟨⟨afk, none⟩, s.mem, by rw [dt]; rfl⟩, ⟨hw, .kG _ _ l8.1 l8.2, tu, ok⟩, af⟩))
  · cases ob
  · right; right; right; right; left
    refine ⟨ab, hm, ?_⟩
    have tx : kT bm = false := by
      cases aa : kT bm with
      | false => rfl
      | true => rw [yY aa] at hm; cases hm
    have l8 : eQ P s.n s.look s.mem bm b e ∧ qB (some hs) s.look bm = true := by
      cases he with
      | kG b e he aE => exact ⟨he, aE⟩
      | read av h ak aq => rw [(wY aq).2] at hm; cases hm
    have pu : e.m = none := l8.1.OD tx;obtain ⟨f, args, m0, R0, Post, GD, hp, ax, tz, aq, fE, af⟩ := ak.ex;refine ⟨f, args, m0, R0, Post, GD.congr (fun x aa => (mg x aa).symm), hp, ax, fun k cs aG => ?_, aq, fE, fun r aH az h1 h2 ap aL => ?_⟩
    · obtain ⟨this, aE⟩ := tz k cs aG
      rw [ck.qG, pu] at this;exact ⟨this, aE⟩
    · obtain ⟨f1, dT⟩ := af r aH az h1 h2 ap aL
      have yw : (s.over aH).put bk.dst r = (⟨r, none⟩ : ck).on bk.dst { s with mem := bZ aH s.mem } := rfl
      have es : ((e.on bm.dst s).over aH).put bk.dst r = e.on bm.dst ((s.over aH).put bk.dst r) := by
        have dp : e.on bm.dst s = s.put bm.dst e.v := by unfold ck.on; rw [pu]
        have aI : e.on bm.dst ((s.over aH).put bk.dst r) = ((s.over aH).put bk.dst r).put bm.dst e.v := by unfold ck.on; rw [pu]
        have aN : (s.put bm.dst e.v).over aH = (s.over aH).put bm.dst e.v := by cases bm.dst <;> rfl
        rw [dp, aI, aN];exact aD.put_comm (s.over aH) e.v r a2
      have rM : ∀ k ar, aH k = some ar → (∃ cs, m0 k = some cs) ∨ (s.mem k = none ∧ k < s.n) := fun k ar aG => by
        have := f1 k ar aG;rw [ck.qG, pu, ck.tS] at this;exact this
      have GV : eQ P s.n s.look (bZ aH s.mem) bm b e := l8.1.OE tx fun ty x k off cs ax aa af => by
        have aE := NI l8.2 ax aa;cases uU : aH k with
        | none => rw [hg uU]; exact af
        | some c =>
          rcases rM k c uU with ⟨k4, aG⟩ | ⟨aG, _⟩
          · obtain ⟨pA, Hg | rY⟩ := tz k k4 aG
            · rw [Hg] at aE; cases aE
            · rw [hf (rY r aH az h1)]
              rw [ck.qG, pu] at pA;exact pA.symm.trans af
          · rw [aG] at af; cases af
      refine ⟨fun k ar aG => ?_, ⟨⟨_, _, yw⟩, ⟨?_, ?_, fun d hd => ?_, ok.Ic ap h2 _⟩, by rw [← es]; exact dT⟩⟩
      · exact rM k ar aG
      · rw [yw, xF (b := none) a3]; exact hw
      · refine .kG _ _ ?_ (zz l8.2 fun x aa => by rw [yw]; exact (ck.qF _ _ _ fun d hd => tH (a3 d hd) aa).trans (by cases x <;> rfl))
        have an : ∀ x ∈ bm.op.operands, ((s.over aH).put bk.dst r).look x = s.look x := fun x aa => by
          rw [yw];exact (ck.qF _ _ _ fun d hd => tH (a3 d hd) aa).trans (by cases x <;> rfl)
        have aF : ((s.over aH).put bk.dst r).n = s.n := by rw [aD.sf]; rfl
        rw [aF, aD.xb];exact GV.BO an
      · rw [aD.sf]; exact tu d hd
  · right; right; right; right; right
    refine ⟨ab, hm, ?_⟩
    have tx : kT bm = false := by
      cases aa : kT bm with
      | false => rfl
      | true => rw [yY aa] at hm; cases hm
    have l8 : eQ P s.n s.look s.mem bm b e ∧ qB (some hs) s.look bm = true := by
      cases he with
      | kG b e he aE => exact ⟨he, aE⟩
      | read av h ak aq => rw [(wY aq).2] at hm; cases hm
    have pu : e.m = none := l8.1.OD tx;obtain ⟨f, args, m0, R0, Post, GD, hp, ax, tz, aq, fE, af⟩ := ak.ex;refine ⟨f, args, m0, R0, Post, GD.congr (fun x aa => (mg x aa).symm), hp, ax, fun k cs aG => ?_, aq, fE, fun r aH az h1 h2 ap aL => ?_⟩
    · obtain ⟨this, aE⟩ := tz k cs aG
      rw [ck.qG, pu] at this;exact ⟨this, aE⟩
    · obtain ⟨f1, dT⟩ := af r aH az h1 h2 ap aL
      have yw : (s.over aH).put bk.dst r = (⟨r, none⟩ : ck).on bk.dst { s with mem := bZ aH s.mem } := rfl;obtain ⟨i, d, q, dt, mc, y5, G7, ahk, dT⟩ := dT
      have Yh : ((s.over aH).put bk.dst r).tmps d = some (aQ q.v) := by
        rw [dt] at G7 ⊢;simp only [aD.put, cr] at G7 ⊢;exact G7
      have GY : ((s.over aH).put bk.dst r).n = s.n := by rw [aD.sf]; rfl
      have B2 : ((s.over aH).put bk.dst r).put (some d) (cI q.sz q.n q.aV) = (⟨cI q.sz q.n q.aV, none⟩ : ck).on bk.dst { s with mem := bZ aH s.mem } := by rw [dt, zY]; rfl
      have FV : (((e.on bm.dst s).over aH).put bk.dst r).put (some d) (cI q.sz q.n q.aV) = e.on bm.dst (((s.over aH).put bk.dst r).put (some d) (cI q.sz q.n q.aV)) := by
        have dp : e.on bm.dst s = s.put bm.dst e.v := by unfold ck.on; rw [pu]
        have aI : ∀ u : aD, e.on bm.dst u = u.put bm.dst e.v := fun u => by unfold ck.on; rw [pu]
        have aN : (s.put bm.dst e.v).over aH = (s.over aH).put bm.dst e.v := by cases bm.dst <;> rfl
        rw [dp, aI, aN, dt, zY, zY];exact aD.put_comm (s.over aH) e.v _ (by rw [← dt]; exact a2)
      rw [FV] at dT;have Md : d < s.n := uO d dt
      have rM : ∀ k ar, aH k = some ar → (∃ cs, m0 k = some cs) ∨ (s.mem k = none ∧ k < s.n) := fun k ar aG => by
        have := f1 k ar aG;rw [ck.qG, pu, ck.tS] at this;exact this
      have GV : eQ P s.n s.look (bZ aH s.mem) bm b e := l8.1.OE tx fun ty x k off cs ax aa af => by
        have aE := NI l8.2 ax aa;cases uU : aH k with
        | none => rw [hg uU]; exact af
        | some c =>
          rcases rM k c uU with ⟨k4, aG⟩ | ⟨aG, _⟩
          · obtain ⟨pA, Hg | rY⟩ := tz k k4 aG
            · rw [Hg] at aE; cases aE
            · rw [hf (rY r aH az h1)]
              rw [ck.qG, pu] at pA;exact pA.symm.trans af
          · rw [aG] at af; cases af
      refine ⟨fun k ar aG => ?_, i, d, q, dt, mc, y5, Yh, by rw [GY]; exact Md, ⟨⟨_, _, B2⟩, ⟨?_, ?_, fun d hd => ?_, (ok.Ic ap h2 _).put fun j ae => absurd ae (lh _ j)⟩, dT⟩⟩
      · exact rM k ar aG
      · rw [B2, xF (b := none) a3]; exact hw
      · refine .kG _ _ ?_ (zz l8.2 fun x aa => by rw [B2]; exact (ck.qF _ _ _ fun d hd => tH (a3 d hd) aa).trans (by cases x <;> rfl))
        have an : ∀ x ∈ bm.op.operands, (((s.over aH).put bk.dst r).put (some d) (cI q.sz q.n q.aV)).look x = s.look x := fun x aa => by
          rw [B2];exact (ck.qF _ _ _ fun d hd => tH (a3 d hd) aa).trans (by cases x <;> rfl)
        have aF : (((s.over aH).put bk.dst r).put (some d) (cI q.sz q.n q.aV)).n = s.n := by rw [aD.sf, aD.sf]; rfl
        rw [aF, aD.xb, aD.xb];exact GV.BO an
      · rw [aD.sf, aD.sf]; exact tu d hd
theorem WI {K : aJ → aD → Prop} {i : Nat} {b : Bool} {e : ck} (hi : ops[i]? = some bm) : ∀ (fa : Nat) (bw : Array Bool) (R : aJ) (s : aD),
      (∀ j bk, ops[j]? = some bk → j ≠ i → bw.getD j true = false → (∀ e ∈ bk.after, Region.binds .any e = true → e.on ≠ i) → waits .any ops 4 j i = false → waits .any ops 8 j i = false → bm.apart ops bk = true ∧ o3 ops bw bm bk s ∧ (kT bm = true → dJ (some hs) bk = false)) →
      Down .any ops bw → i ∈ Region.ready .any ops bw → s.cN → want ops bm s = some b → rk P ops (some hs) R s bm b e → (∀ d, bm.dst = some d → d < s.n) →
      wH P .any ops hs K fa (bw.setIfInBounds i true) R (e.on bm.dst s) → wH P .any ops hs K (fa + 1) bw R s := by
  intro fa
  induction fa with
  | zero =>
    intro bw R s _ fP aq ok hw he hd H;refine ⟨fun h => (by rw [h] at aq; cases aq), fun j ae bk fD => ?_⟩
    by_cases gh : j = i
    · subst gh; rw [hi] at fD; cases fD; exact ⟨b, hw, hd, .inl ⟨e, he, H⟩⟩
    · have := ready_mono ae gh
      rw [H.1] at this;cases this
  | succ fa cp =>
    intro bw R s jr fP aq ok hw he hd H;refine ⟨fun h => (by rw [h] at aq; cases aq), fun j ae bk fD => ?_⟩
    by_cases gh : j = i
    · subst gh; rw [hi] at fD; cases fD; exact ⟨b, hw, hd, .inl ⟨e, he, H⟩⟩
    · have h1 := H.2 j (ready_mono ae gh) bk fD
      obtain ⟨uR, abA, y3, cX⟩ := mem_ready.1 ae;rw [fD] at y3;cases y3
      have rW : ∀ e ∈ bk.after, Region.binds .any e = true → e.on ≠ i := fun e he ab rV => by
        have h1 := cX e he ab;have aG := (mem_ready.1 aq).1;rw [rV] at h1;rcases iL i bw.size with aC | aC
        · simp [aC] at aG h1; rw [aG] at h1; cases h1
        · simp [vo aC] at h1
      have r2 : ∀ f, waits .any ops f j i = false := fun f => by
        cases r1 : waits .any ops f j i with
        | false => rfl
        | true =>
          have h1 := I6 fP f j i bk fD cX r1;have aG := (mem_ready.1 aq).1;rcases iL i bw.size with aC | aC
          · simp [aC] at aG h1; rw [aG] at h1; cases h1
          · simp [vo aC] at h1
      have wY : z8 ops hs bm.dst = true → v8 bk = false ∧ dJ (some hs) bk = false := fun h => by
        unfold z8 at h;simp only [cu, qN] at h;have h1 := h i (ku.1 hi).1;simp only [hi, beq_self_eq_true, Bool.not_true, Bool.false_or, cu, qN] at h1;have h2 := h1 j (ku.1 fD).1;simp only [fD, r2 8, Bool.or_false, so, Bool.or_eq_false_iff] at h2;exact h2
      obtain ⟨g1, g2, g3⟩ := jr j bk fD gh uR rW (r2 4) (r2 8);have h2 := WT ok hw he hd g1 g2.sep wY g3 h1;refine LZ ok (fun az t aiq ap => ?_) h2;obtain ⟨⟨f, du, rfl⟩, ap⟩ := ap
      have GI : ∀ k ok, ops[k]? = some ok → k ≠ i → (bw.setIfInBounds j true).getD k true = false →
          (∀ e ∈ ok.after, Region.binds .any e = true → e.on ≠ i) → waits .any ops 4 k i = false → waits .any ops 8 k i = false → bm.apart ops ok = true ∧ o3 ops (bw.setIfInBounds j true) bm ok (f.on bk.dst { s with mem := du }) ∧ (kT bm = true → dJ (some hs) ok = false) := fun k ok af kn h8 js CT YE => by
        have tE : bw.getD k true = false := by
          by_cases kM : j = k
          · subst kM; exact uR
          · rwa [getD_set_ne true kM] at h8
        obtain ⟨q1, q2, b5⟩ := jr k ok af kn tE js CT YE;exact ⟨q1, (show o3 ops bw bm ok { s with mem := du } from q2).on fD uR, b5⟩
      refine cp (bw.setIfInBounds j true) az _ GI (fP.set ae) (ready_mono aq (Ne.symm gh)) ap.1.2.2.2 ap.1.1 ap.1.2.1 ap.1.2.2.1 ?_;rw [Array.setIfInBounds_comm _ _ gh];exact ap.2
theorem LU {ro : Option Nat} {K : aJ → aD → Prop} {Q : Exit → Act → World → Prop} (lc : ∀ az s' a' w', s'.cN → oX br bY az s' a' w' → K az s' → Q .normal a' w') : ∀ (fa : Nat) (bw : Array Bool) (R : aJ) (s : aD) (a : Act) (w : World), s.cN → oX br bY R s a w →
    wH P md ops hs K fa bw R s → wpAnyIn (l3 ro) 0 P md ops Q fa bw a w
  | 0, _, _, _, _, _, ok, ay, h => ⟨h.1, lc _ _ _ _ ok ay h.2⟩
  | fa + 1, bw, R, s, a, w, ok, ay, h => ⟨fun aG => lc _ _ _ _ ok ay (h.1 aG), fun i hi => by
      obtain ⟨aG, o, ax, _⟩ := mem_ready.1 hi;exact L0 ax ok ay (h.2 i hi o ax) fun az s' a' w' dB cw af => LU lc fa _ az s' a' w' dB cw af⟩
theorem yH {K : aJ → aD → Prop} (tA : ∀ o, dJ dr o = false) : ∀ (l : List Oper) (R : aJ) (s : aD), cL P ops dr K l R s → ∃ az s', K az s' ∧ ∀ t, (∀ o ∈ l, o.dst ≠ some t) → s'.tmps t = s.tmps t
  | [], R, s, h => ⟨R, s, h, fun _ _ => rfl⟩
  | o :: l, R, s, ⟨b, hw, hd, h⟩ => by
    rcases h with ⟨e, he, dT⟩ | ⟨_, d, f, ia, dt, au, dT⟩ | ⟨_, _, bn, dt, au, dT⟩ | ⟨_, _, d, f, i, g, dt, au, aw, dT⟩ | ⟨_, hm, _⟩ | ⟨_, hm, _⟩
    · obtain ⟨az, s', h1, h2⟩ := yH tA l _ _ dT
      exact ⟨az, s', h1, fun t aE => (h2 t fun fu gB => aE fu (by simp [gB])).trans (ck.xj (aE o (by simp)))⟩
    · obtain ⟨v1, iF⟩ := au.1.out
      obtain ⟨az, s', h1, h2⟩ := yH tA l _ _ (dT v1 iF);refine ⟨az, s', h1, fun t aE => (h2 t fun fu gB => aE fu (by simp [gB])).trans ?_⟩;have := aE o (by simp);rw [dt] at this;exact ck.xj (e := ⟨aQ v1, none⟩) this
    · obtain ⟨az, s', h1, h2⟩ := yH tA l _ _ dT
      exact ⟨az, s', h1, fun t aE => h2 t fun fu gB => aE fu (by simp [gB])⟩
    · obtain ⟨az, s', h1, h2⟩ := yH tA l _ _ (dT (.bool false) rfl)
      refine ⟨az, s', h1, fun t aE => (h2 t fun fu gB => aE fu (by simp [gB])).trans ?_⟩;have := aE o (by simp);rw [dt] at this;exact ck.xj (e := ⟨cI (g (.bool false)).sz (g (.bool false)).n (g (.bool false)).aV, none⟩) this
    · rw [tA o] at hm; cases hm
    · rw [tA o] at hm; cases hm
def MD (ops : Array Oper) (hs : List Nat) (bw : Array Bool) (i : Nat) : Bool := (List.range ops.size).all fun j => Nat.beq j i || bw.getD j true || match ops[j]? with
  | some bk => !dJ (some hs) bk || waits .any ops 8 j i
  | none => true
def zB (ops : Array Oper) (hz : List (Nat × Nat)) (hs : List Nat) : List Nat → Array Bool → Bool
  | [], bw => (Region.ready .any ops bw).isEmpty
  | k :: ord, bw => (bif (match ops[k]? with | some o => (uX o && !rE (some hs) o) || dJ (some hs) o | none => true) then Region.ready .any ops bw == [k] else (Region.ready .any ops bw).contains k && Region.free .any ops bw k && Dl .any ops hz bw k && (!(match ops[k]? with | some o => kT o | none => true) || MD ops hs bw k)) && zB ops hz hs ord (bw.setIfInBounds k true)
theorem kC.hot {look : Operand → Option ai} {f : Value → aJ} {ia : Value → Prop} (h : kC P R look o f ia) : uX o = true := by
  cases h with
  | uA i r tt bytes m jh jI news hi ax => simp [uX, ax]
  | copy i r tt t2 m lo hi x y news de bQ ax => simp [uX, ax]
  | new i t n e sz bytes parts vs zs r hi ax => simp [uX, ax]
  | make i t l c e sz bytes x y ou pC vs hi ax => simp [uX, ax]
theorem LS {K : aJ → aD → Prop} {hz : List (Nat × Nat)} (Mv : hz = [] ∨ hs = []) : ∀ (ord : List Nat) (l : List Oper) (bw : Array Bool) (R : aJ) (s : aD), l.length = ord.length → (∀ (j : Nat), l[j]? = (ord[j]?).bind (ops[·]?)) → (∀ k ∈ ord, bw.getD k true = false) → (∀ k, k < ops.size → bw.getD k true = false → k ∈ ord) → ord.Nodup → Down .any ops bw → s.cN →
    zB ops hz hs ord bw = true → cL P ops (some hs) (fun R s => hz.all (lV s) = true ∧ K R s) l R s → wH P .any ops hs K l.length bw R s
  | [], [], _, _, _, _, _, _, _, _, _, _, fi, h => ⟨by simpa [zB] using fi, h.2⟩
  | [], _ :: _, _, _, _, hlen, _, _, _, _, _, _, _, _ => by cases hlen
  | _ :: _, [], _, _, _, hlen, _, _, _, _, _, _, _, _ => by cases hlen
  | k :: ord, o :: l, bw, R, s, hlen, an, h8, GF, gN, fP, ok, fi, h => by
    have aG : ops[k]? = some o := by simpa using (an 0).symm
    have rU := fun tA => yH (dr := some hs) tA _ _ _ h;simp only [zB, aG, dQ] at fi;obtain ⟨af, Gi⟩ := fi;rw [List.nodup_cons] at gN;have cn : ∀ q ∈ ord, k ≠ q := fun q al e => gN.1 (by rw [e]; exact al)
    have cp : ∀ az s', s'.cN → k ∈ Region.ready .any ops bw → cL P ops (some hs) (fun R s => hz.all (lV s) = true ∧ K R s) l az s' → wH P .any ops hs K l.length (bw.setIfInBounds k true) az s' := fun az s' dB aq aY => by
      refine LS Mv ord l _ az s' (by simpa using hlen) (fun j => by simpa using an (j + 1)) (fun q al => by rw [getD_set_ne true (cn q al)]; exact h8 q (by simp [al])) (fun q al uT => ?_) gN.2 (fP.set aq) dB Gi aY
      by_cases bu : k = q
      · subst bu
        have : k < bw.size := by
          have := h8 k (by simp);rcases iL k bw.size with aC | aC
          · exact aC
          · simp [vo aC] at this
        simp [this] at uT
      · rw [getD_set_ne true bu] at uT
        rcases gI.1 (GF q al uT) with aC | aC
        · exact absurd aC.symm bu
        · exact aC
    cases aY : ((uX o && !rE (some hs) o) || dJ (some hs) o) with
    | true =>
      rw [aY] at af;simp only [cond_true, beq_iff_eq] at af;have aq : k ∈ Region.ready .any ops bw := by rw [af]; simp
      refine ⟨fun h1 => (by rw [af] at h1; cases h1), fun i hi bm My => ?_⟩;rw [af] at hi;obtain rfl : i = k := by simpa using hi
      rw [aG] at My;cases My;exact LZ ok (fun az s' dB aY => cp az s' dB aq aY) h
    | false =>
      rw [aY] at af;simp only [cond_false, dQ] at af;obtain ⟨⟨⟨aq, au⟩, hm⟩, yZ⟩ := af;rw [Bool.or_eq_false_iff] at aY;have CN : k ∈ Region.ready .any ops bw := by simpa using aq
      obtain ⟨b, hw, hd, h1⟩ := h;rcases h1 with ⟨e, he, dT⟩ | ⟨_, d, f, ia, dt, lJ, _⟩ | ⟨_, ob, _⟩ | ⟨_, ob, _⟩ | ⟨_, fR, _⟩ | ⟨_, fR, _⟩
      · have lL : ∀ p ∈ hz, oB ops bw p.1 = true → oB ops bw p.2 = true → lV s p = true := fun p hp hP iI => by
          have pA : hs = [] := by
            rcases Mv with aG | aG
            · rw [aG] at hp; cases hp
            · exact aG
          obtain ⟨az, s', ⟨h1, _⟩, h2⟩ := rU fun o => by rw [pA]; simp [dJ]
          have gR : ∀ t, oB ops bw t = true → ∀ fu ∈ o :: l, fu.dst ≠ some t := fun t aE fu gB => by
            obtain ⟨j, ae⟩ := jX gB;rw [an j] at ae;cases al : (k :: ord)[j]? with
            | none => rw [al] at ae; cases ae
            | some q => rw [al] at ae; exact Dx aE q fu ae (h8 _ (dF al))
          have := cu.1 h1 p hp;unfold lV at this ⊢;rw [h2 p.1 (gR _ hP), h2 p.2 (gR _ iI)] at this;exact this
        refine WI aG l.length bw R s (fun j bk h1 h2 ap aL dx gd => ⟨Region.free_spec aG au j bk h1 h2 ap aL, N7 aG hm lL j bk h1 h2 ap dx, fun yY => ?_⟩) fP CN ok hw he hd ?_
        · rw [yY] at yZ
          simp only [Bool.not_true, Bool.false_or] at yZ;unfold MD at yZ;simp only [cu, qN] at yZ;have q := yZ j (ku.1 h1).1;simp only [h1, ap, gd, Bool.or_false, qM, so] at q;rcases q with q | q
          · exact absurd (gS q) h2
          · exact q
        exact cp _ _ (he.ok ok hd) CN dT
      · rw [lJ.1.hot, lJ.2] at aY; cases aY.1
      · have fR : dJ (some hs) o = true := ob
        rw [aY.2] at fR; cases fR
      · cases ob
      · rw [aY.2] at fR; cases fR
      · rw [aY.2] at fR; cases fR
def fp (P : Program) (c : Code) (Q : Exit → aJ → aD → Prop) (R : aJ) (s : aD) : Prop :=
  s.cN → ∀ br bY a w, oX br bY R s a w → ka P c (fun x a' w' => ∃ az s', s'.cN ∧ oX br bY az s' a' w' ∧ Q x az s') a w
def Iy (l : List Oper) (ord hs : List Nat) : Bool := ((vg l.toArray ord).isEmpty || hs.isEmpty) && Nat.beq ord.length l.length && zK ord && (List.range l.length).all (fun i => ord.contains i) && ord.all (fun i => Nat.blt i l.length) && zB l.toArray (vg l.toArray ord) hs ord (Array.replicate l.length false)
variable {Q : Exit → aJ → aD → Prop} {x y c : Code}
theorem lr (ord hs : List Nat) {id : Nat} {l cx : List Oper} (fi : Iy l ord hs = true) (hm : P.follows .mixedOrders = true) (an : getAll l ord = some cx)
    (h : cL P l.toArray (some hs) (fun R s => (vg l.toArray ord).all (lV s) = true ∧ Q .normal R s) cx R s) : fp P (.region id l.toArray true) Q R s := by
  intro ok br bY a w ay;refine Q2 hm fun ro => ?_;unfold Iy at fi;simp only [dQ, cu, qN, List.contains_eq_mem, cB] at fi;obtain ⟨⟨⟨⟨⟨uC, n1⟩, b1⟩, b2⟩, ed⟩, dD⟩ := fi;obtain ⟨g1, g2⟩ := F9 _ _ an;obtain ⟨A, ad, ay⟩ := ay;have hd : ep br bY R s a { w with drawn := w.drawn + 1 } A ad := ay.next (ay.rel.call ((Below.refl _ w).drew))
  refine LU (K := Q .normal) (hs := hs) (fun az s' a' w' dB cw af => ⟨az, s', dB, cw, af⟩) _ _ R s a _ ok ⟨A, ad, hd⟩ ?_;have nd := H8 _ b1;have hlen : ord.length = l.length := gS n1;have := LS (ops := l.toArray) (hs := hs) (by simpa [qM, List.isEmpty_iff] using uC) ord cx (Array.replicate l.length false) R s g1 (by simpa using g2) (fun q al => by have := ed q al; simp [Nat.blt_eq] at this; simp [this]) (fun q al _ => b2 q (by simpa using al)) nd (fun k o af => by exfalso; rcases iL k l.length with q | q <;> simp [Array.getElem?_replicate, q] at af) ok dD h;rw [g1, hlen] at this;simpa using this
theorem dR (ord : List Nat) {id : Nat} {l cx : List Oper} (fi : Iy l ord [] = true) (hm : P.follows .mixedOrders = true) (an : getAll l ord = some cx)
    (h : cL P l.toArray (some []) (fun R s => (vg l.toArray ord).all (lV s) = true ∧ Q .normal R s) cx R s) : fp P (.region id l.toArray true) Q R s := lr ord [] fi hm an h
theorem LY {ro : Option Nat} {K : aJ → aD → Prop} {Q : Exit → Act → World → Prop} (lc : ∀ az s' a' w', s'.cN → oX br bY az s' a' w' → K az s' → Q .normal a' w') : ∀ (l : List Oper) (k : Nat) (R : aJ) (s : aD) (a : Act) (w : World), (∀ (j : Nat), l[j]? = ops[k + j]?) → s.cN → oX br bY R s a w →
    cL P ops dr K l R s → wpOpsIn (l3 ro) 0 P ops Q ((List.range l.length).map (k + ·)) a w
  | [], _, _, _, _, _, _, ok, ay, h => lc _ _ _ _ ok ay h
  | o :: l, k, R, s, a, w, an, ok, ay, h => by
    have aG : ops[k]? = some o := by simpa using (an 0).symm
    have e : (List.range (o :: l).length).map (k + ·) = k :: (List.range l.length).map (k + 1 + ·) := by
      rw [lm, List.range_succ_eq_map, kv, List.map_map];congr 1;apply pG;intro j _;simp [Nat.add_assoc, Nat.add_comm 1 j]
    rw [e, wpOpsIn_cons];refine L0 aG ok ay h fun az s' a' w' dB cw af => LY lc l (k + 1) az s' a' w' (fun j => by have := an (j + 1); simpa [Nat.add_assoc, Nat.add_comm 1 j] using this) dB cw af
theorem a7 {id : Nat} {l : List Oper} (h : cL P l.toArray none (Q .normal) l R s) : fp P (.region id l.toArray false) Q R s := by
  intro ok br bY a w ay;refine Q1 fun ro => ?_;have := LY (ro := ro) (ops := l.toArray) (K := Q .normal) (Q := fun e a' w' => ∃ az s', s'.cN ∧ oX br bY az s' a' w' ∧ Q e az s') (fun az s' a' w' dB cw af => ⟨az, s', dB, cw, af⟩) l 0 R s a w (by simp) ok ay h;simpa using this
def Ag (next : aJ → aD → Prop) (Q : Exit → aJ → aD → Prop) : Exit → aJ → aD → Prop
  | .normal, R, s => next R s
  | e, R, s => Q e R s
def xt (id : Nat) (Q : Exit → aJ → aD → Prop) : Exit → aJ → aD → Prop
  | .exit pB, R, s => bif Nat.beq pB id then Q .normal R s else Q (.exit pB) R s
  | e, R, s => Q e R s
theorem ba (h : fp P x (Ag (fun R s => fp P y Q R s) Q) R s) : fp P (.seq x y) Q R s := by
  intro ok br bY a w cK;refine Q4 (sL (h ok br bY a w cK) ?_);rintro x a' w' ⟨az, s', dB, l6, al⟩;cases x <;> first | exact al dB br bY a' w' l6 | exact ⟨az, s', dB, l6, al⟩
theorem cS (h : Q .normal R s) : fp P .skip Q R s := fun ok br bY a w ay => Q5 ⟨R, s, ok, ay, h⟩
theorem j6 {id : Nat} (h : Q (.exit id) R s) : fp P (.exit id) Q R s := fun ok br bY a w ay => QZ ⟨R, s, ok, ay, h⟩
theorem db (h : Q .ret R s) : fp P .ret Q R s := fun ok br bY a w ay => Q3 ⟨R, s, ok, ay, h⟩
theorem eM {id : Nat} (h : fp P x (xt id Q) R s) : fp P (.block id x) Q R s := by
  intro ok br bY a w cK;refine QX (sL (h ok br bY a w cK) ?_);rintro x a' w' ⟨az, s', dB, l6, al⟩;cases x with
  | exit pB =>
    simp only [Exit.inBlock];simp only [xt] at al;cases ab : Nat.beq pB id with
    | true => rw [ab] at al; rw [if_pos (gS ab)]; exact ⟨az, s', dB, l6, al⟩
    | false =>
      rw [ab] at al;have : pB ≠ id := fun e => by subst e; rw [Nat.beq_refl] at ab; cases ab
      rw [if_neg this]; exact ⟨az, s', dB, l6, al⟩
  | _ => exact ⟨az, s', dB, l6, al⟩
theorem Qj {c : Operand} {b : Bool} (ak : s.look c = some (bF b)) (h1 : b = true → fp P x Q R s) (aG : b = false → fp P y Q R s) : fp P (.cond c x y) Q R s := by
  rintro ok br bY a w ⟨A, ad, ay⟩;have hv : a.eval c = .bool b := (ay.rel.look ak).1;refine QY hv ?_;cases b with
  | true => exact h1 rfl ok br bY a w ⟨A, ad, ay⟩
  | false => exact aG rfl ok br bY a w ⟨A, ad, ay⟩
theorem dz {c : Operand} {b : Bool} (ak : s.look c = some (bF b)) (ab : b = true) (h1 : fp P x Q R s) : fp P (.cond c x y) Q R s := Qj ak (fun _ => h1) fun e => by rw [ab] at e; cases e
theorem c6 {c : Operand} {b : Bool} (ak : s.look c = some (bF b)) (ab : b = false) (aG : fp P y Q R s) : fp P (.cond c x y) Q R s := Qj ak (fun e => by rw [ab] at e; cases e) fun _ => aG
theorem ls (N : Nat) (I : Nat → aJ → List (Nat × ai) → List (Nat × List AC) → Prop) (k : Nat) (R0 : aJ) (aS : List (Nat × ai)) (bD : List (Nat × List AC)) (bq : I k R0 aS bD) (an : bH R0 R) (aF : N = s.n) (aE : nY s.tmps aS) (hm : nY s.mem bD) (dU : okB aS bD = true)
    (round : ∀ k R aS bD, I k R aS bD → okB aS bD = true → fp P x (Ag (fun az s' => ∃ k' Bd oQ ox, k' < k ∧ I k' Bd oQ ox ∧ bH Bd az ∧ N = s'.n ∧ nY s'.tmps oQ ∧ nY s'.mem ox ∧ okB oQ ox = true) Q) R (tK N aS bD)) : fp P (.loop x) Q R s := by
  rintro ok br bY a w ⟨A, ad, ay⟩;refine Q0 (fun k a w => ∃ R aS bD, I k R aS bD ∧ okB aS bD = true ∧ oX br bY R (tK N aS bD) a w) (n := k) ⟨R0, aS, bD, bq, dU, A, ad, (ay.le an).NK (Dm aF aE hm)⟩ ?_;rintro k a w ⟨R, aS, bD, bq, ok, cK⟩;refine sL (round k R aS bD bq ok (HS ok) br bY a w cK) ?_;rintro x a' w' ⟨az, s', dB, ⟨ei, bg, l6⟩, al⟩;cases x with
  | normal =>
    obtain ⟨k', Bd, oQ, ox, h1, h2, ap, aL, dx, gd, mC⟩ := al;exact ⟨k', h1, Bd, oQ, ox, h2, mC, ei, bg, (l6.le ap).NK (Dm aL dx gd)⟩
  | _ => exact ⟨az, s', dB, ⟨ei, bg, l6⟩, al⟩
theorem uB {Q : Exit → aD → Prop} (h : fp P c (fun x az s' => Q x s') fk s) : fo P c Q s := by
  intro ok B A ad a w ay;have cK : ep B A fk s a w A ad := ⟨ay.up, fun _ h => h, ay.hot fun b h => ay.up b (ln ay.below.size h), fun k cs af => (ay.du k cs af).choose_spec.choose_spec.2.2, ay.below, fun i r hi => (by cases hi), fun i j r q hi => (by cases hi), fun i r g hi => (by cases hi), ay.jQ⟩;refine sL (h ok B A a w ⟨A, ad, cK⟩) ?_;rintro x a' w' ⟨az, s', dB, ⟨mv, eN, h1⟩, al⟩;exact ⟨s', eN, dB, h1.rel.x9 (fun b ab _ => ⟨h1.sub b ab, rfl⟩) (fun k cs af => ⟨rfl, h1.ov k cs af⟩) h1.below ay.up h1.jQ, al⟩
theorem nK (i e sz : Nat) (hi : R i = none) (h : fp P c Q (bM R i ⟨e, sz, .slice none 0 0, 0, []⟩) s) (bQ : 0 < sz := by decide) : fp P c Q R s := by
  rintro ok br bY a w ⟨A, ad, ay⟩;have js : ∀ g, ¬ (⟨e, sz, .slice none 0 0, 0, []⟩ : bL).own g := fun g aw => by have := bL.oD aw bQ; cases this
  refine h ok br bY a w ⟨A, ad, ay.up, ay.sub, ay.rel, ay.ov, ay.below, fun j r ae => ?_, fun j k r q ae af kM g aw => ?_, fun j r g ae aw => ?_, ay.jQ⟩
  · by_cases bu : j = i
    · subst bu
      rw [cr] at ae;cases ae;exact ⟨.inl ⟨bQ, [], World.ownsRow_nil w 0 e sz, rfl, fun i x v aa => by simp at aa⟩, fun y ag => (by cases ag), fun g aw => absurd aw (js g)⟩
    · rw [cj _ _ bu] at ae; exact ay.rows j r ae
  · by_cases aI : j = i
    · subst aI; rw [cr] at ae; cases ae; exact absurd aw (js g)
    · rw [cj _ _ aI] at ae
      by_cases aN : k = i
      · subst aN; rw [cr] at af; cases af; exact js g
      · rw [cj _ _ aN] at af; exact ay.apart j k r q ae af kM g aw
  · by_cases aI : j = i
    · subst aI; rw [cr] at ae; cases ae; exact absurd aw (js g)
    · rw [cj _ _ aI] at ae; exact ay.hot j r g ae aw
theorem Ed (i d : Nat) (r : bL) (hi : R i = some r) (hd : s.tmps d = some (aQ r.v)) (h : fp P c Q (fun j => if j = i then none else R j) (s.put (some d) (cI r.sz r.n r.aV))) (bQ : 0 < r.sz := by first | decide | exact jd _) : fp P c Q R s := by
  rintro ok br bY a w ⟨A, ad, ay⟩
  have fP : d < s.n := by
    obtain ⟨v, h1, _⟩ := ay.rel.gK d _ hd;rw [← ay.rel.size];exact (ku.1 h1).1
  obtain ⟨ei, Co⟩ := ay.uE i d r hi bQ hd fP;exact h (ok.put fun j ae => absurd ae (lh _ j)) br bY a w ⟨ei, ad, Co⟩
theorem aM {K : aJ → aD → Prop} {rest : List Oper} (aE : qB dr s.look o = true) (h : bj P ops (fun s' => cL P ops dr K rest R s') [o] s) : cL P ops dr K (o :: rest) R s := by
  obtain ⟨b, hw, e, he, hd, af⟩ := h;exact ⟨b, hw, hd, .inl ⟨e, .kG b e he aE, af⟩⟩
theorem aU {K : aJ → aD → Prop} (h : K R s) : cL P ops dr K [] R s := h
theorem ev {K : aJ → aD → Prop} {hz : List (Nat × Nat)} (hs : hz.all (lV s) = true) (h : K R s) : cL P ops dr (fun R s => hz.all (lV s) = true ∧ K R s) [] R s := ⟨hs, h⟩
variable {d ty : Nat} {pos : String} {after : Array Edge} {guard : Option (Nat × Bool)} {K : aJ → aD → Prop} {rest : List Oper}
theorem zc {op : Op} {av : ai} (hw : want ops ⟨some d, op, ty, pos, after, guard⟩ s = some true) (al : kB P R s.look ⟨some d, op, ty, pos, after, guard⟩ av) (ak : av.bc = true) (aq : tZ ops dr (some d) = true) (hd : Nat.blt d s.n = true) (h : cL P ops dr K rest R (s.put (some d) av)) : cL P ops dr K (⟨some d, op, ty, pos, after, guard⟩ :: rest) R s :=
  ⟨true, hw, kI hd, .inl ⟨⟨av, none⟩, .read av al (ai.dw ak) aq, h⟩⟩
theorem nn {x : Operand} {t z : Nat} {r : bL} (i : Nat) [S : hH P t z] (hi : R i = some r) (hw : want ops ⟨some d, .call ⟨.builtin .len, #[x], #[t]⟩, ty, pos, after, guard⟩ s = some true) (aa : s.look x = some (aQ r.v)) (bQ : Nat.blt 0 r.sz = true) (aq : tZ ops dr (some d) = true) (hd : Nat.blt d s.n = true) (h : cL P ops dr K rest R (s.put (some d) (aW r.n))) : cL P ops dr K (⟨some d, .call ⟨.builtin .len, #[x], #[t]⟩, ty, pos, after, guard⟩ :: rest) R s :=
  zc hw (.len i r t z x hi (by simpa [Nat.blt_eq] using bQ) rfl aa S.h) rfl aq hd h
theorem jw {x y : Operand} {t z : Nat} {r : bL} {gC : IntKind} {j : Int} (i : Nat) [S : hH P t z] (hi : R i = some r) (hw : want ops ⟨some d, .indexAddr t x y, ty, pos, after, guard⟩ s = some true) (aa : s.look x = some (aQ r.v)) (ag : s.look y = some (aQ (.int gC j))) (aG : 0 ≤ j) (h1 : j < r.n) (a6 : z = r.sz) (aq : tZ ops dr (some d) = true) (hd : Nat.blt d s.n = true) (h : cL P ops dr K rest R (s.put (some d) (aQ (jg r.v (j.toNat * z))))) : cL P ops dr K (⟨some d, .indexAddr t x y, ty, pos, after, guard⟩ :: rest) R s := by
  subst a6;exact zc hw (.idx i r t x y gC j hi rfl aa ag aG h1 S.h) rfl aq hd h
theorem np {x : Operand} {lt n off : Nat} {r : bL} {zs : List AC} (i : Nat) [T : fM P lt true n] (hi : R i = some r) (hw : want ops ⟨some d, .load lt x, ty, pos, after, guard⟩ s = some true) (aa : s.look x = some (aQ (jg r.v off))) (aF : 0 < r.n) (a6 : off + n ≤ r.aV.length ∧ (r.aV.drop off).take n = zs) (ak : (ai.w (.agg zs)).bc = true) (aq : tZ ops dr (some d) = true) (hd : Nat.blt d s.n = true) (h : cL P ops dr K rest R (s.put (some d) (.w (.agg zs)))) : cL P ops dr K (⟨some d, .load lt x, ty, pos, after, guard⟩ :: rest) R s :=
  zc hw (.load i r off lt x _ hi aF rfl aa (by
    have dY := T.h;unfold j7 at dY;unfold pick;rw [← a6.2];cases hu : P.underlying lt with
    | none => rw [hu] at dY; cases dY
    | some D =>
      cases gX : P.info? lt with
      | none => rw [hu, gX] at dY; cases D <;> cases dY
      | some ez =>
        rw [hu, gX] at dY;cases D <;> simp at dY <;> (subst dY; simp [a6.1]))) ak aq hd h
theorem qx {tt bytes m : Nat} {r : bL} {jh jI : Operand} {news : List AC} (i : Nat) (hi : R i = some r) [T : nU P tt r.e r.sz bytes] (hw : want ops ⟨some d, .call ⟨.builtin .append, #[jh, jI], #[tt, tt]⟩, ty, pos, after, guard⟩ s = some true) (aa : s.look jh = some (aQ r.v)) (ag : s.look jI = some (cI r.sz m news)) (h1 : r.n + m ≤ maxLen) (h2 : (r.n + m) * bytes ≤ 140737488355328) (ak : news.all AC.bc = true) (hd : Nat.blt d s.n = true)
    (h : ∀ aZ, aZ.oneCell' = true → cL P ops dr K rest (bM R i ⟨r.e, r.sz, aZ, r.n + m, r.aV ++ news⟩) (s.put (some d) (aQ aZ))) (pr : rE dr ⟨some d, .call ⟨.builtin .append, #[jh, jI], #[tt, tt]⟩, ty, pos, after, guard⟩ = false := by exact rfl) : cL P ops dr K (⟨some d, .call ⟨.builtin .append, #[jh, jI], #[tt, tt]⟩, ty, pos, after, guard⟩ :: rest) R s :=
  ⟨true, hw, kI hd, .inr (.inl ⟨rfl, d, _, _, rfl, ⟨.uA i r tt bytes m jh jI news hi rfl T.h aa ag h1 h2 (cu.1 ak), pr⟩, h⟩)⟩
theorem MI {tt bytes m k : Nat} {r : bL} {jh jI : Operand} {news zs : List AC} (i : Nat) (hi : R i = some r) [T : nU P tt r.e r.sz bytes] (hw : want ops ⟨some d, .call ⟨.builtin .append, #[jh, jI], #[tt, tt]⟩, ty, pos, after, guard⟩ s = some true) (aa : s.look jh = some (aQ r.v)) (ag : s.look jI = some (cI r.sz m news)) (h1 : r.n + m ≤ maxLen) (h2 : (r.n + m) * bytes ≤ 140737488355328) (af : r.n + m = k) (a6 : r.aV ++ news = zs) (ak : news.all AC.bc = true) (hd : Nat.blt d s.n = true)
    (h : cL P ops none K rest (fun j => if j = i then none else R j) (s.put (some d) (cI r.sz k zs))) : cL P ops none K (⟨some d, .call ⟨.builtin .append, #[jh, jI], #[tt, tt]⟩, ty, pos, after, guard⟩ :: rest) R s := by
  subst af a6;refine ⟨true, hw, kI hd, .inr (.inr (.inr (.inl ⟨rfl, rfl, d, _, i, fun aZ => ⟨r.e, r.sz, aZ, r.n + m, r.aV ++ news⟩, rfl, .uA i r tt bytes m jh jI news hi rfl T.h aa ag h1 h2 (cu.1 ak), fun aZ => ⟨cr _ _ _, rfl, (qU T.h).choose_spec.choose_spec.2.2.2.2.2.2⟩, fun aZ hv => ?_⟩)))⟩
  have : (fun j => if j = i then none else bM R i ⟨r.e, r.sz, aZ, r.n + m, r.aV ++ news⟩ j) = fun j => if j = i then none else R j := by
    funext j
    by_cases e : j = i
    · rw [if_pos e, if_pos e]
    · rw [if_neg e, if_neg e, cj _ _ e]
  rw [this];exact h
theorem MM {t e sz bytes : Nat} {vs : List Value} (i : Nat) (hi : R i = none) [T : nU P t e sz bytes] [Z : nV P t vs] (hw : want ops ⟨some d, .buildSlice t 0 #[], ty, pos, after, guard⟩ s = some true)
    (h1 : (vs.all fun v => v.oneCell') = true) (hs : Nat.beq vs.length sz = true) (hd : Nat.blt d s.n = true)
    (h : ∀ aZ, aZ.oneCell' = true → cL P ops dr K rest (bM R i ⟨e, sz, aZ, 0, []⟩) (s.put (some d) (aQ aZ))) (pr : rE dr ⟨some d, .buildSlice t 0 #[], ty, pos, after, guard⟩ = false := by exact rfl) : cL P ops dr K (⟨some d, .buildSlice t 0 #[], ty, pos, after, guard⟩ :: rest) R s :=
  ⟨true, hw, kI hd, .inr (.inl ⟨rfl, d, _, _, rfl, ⟨.new i t 0 e sz bytes [] vs [] [] hi rfl T.h Z.h rfl (by simp [hD, qf]) h1 (gS hs) (by simp) (eC _) (by simp) (fun y ag => by cases ag), pr⟩, h⟩)⟩
theorem zb {t l c' e sz bytes : Nat} {x y : Operand} {ou pC : IntKind} {vs : List Value} (i : Nat) (hi : R i = none) [T : nU P t e sz bytes] [Z : nV P t vs] (hw : want ops ⟨some d, .makeSlice t x y, ty, pos, after, guard⟩ s = some true) (aa : s.look x = some (aQ (.int ou l))) (ag : s.look y = some (aQ (.int pC c'))) (an : l ≤ c')
    (h1 : (vs.all fun v => v.oneCell') = true) (hs : Nat.beq vs.length sz = true) (h2 : bytes * c' ≤ 281474976710656) (ap : c' ≤ maxLen) (hd : Nat.blt d s.n = true)
    (h : ∀ aZ, aZ.oneCell' = true → cL P ops dr K rest (bM R i ⟨e, sz, aZ, l, hD l sz vs⟩) (s.put (some d) (aQ aZ))) (pr : rE dr ⟨some d, .makeSlice t x y, ty, pos, after, guard⟩ = false := by exact rfl) : cL P ops dr K (⟨some d, .makeSlice t x y, ty, pos, after, guard⟩ :: rest) R s :=
  ⟨true, hw, kI hd, .inr (.inl ⟨rfl, d, _, _, rfl, ⟨.make i t l c' e sz bytes x y ou pC vs hi rfl T.h Z.h aa ag an h1 (gS hs) h2 ap, pr⟩, h⟩)⟩
theorem Yo {tt t2 m z k : Nat} {r : bL} {x y : Operand} {news zs : List AC} (i : Nat) [S : hH P tt z] (hi : R i = some r) (hw : want ops ⟨some d, .call ⟨.builtin .copy, #[x, y], #[tt, t2]⟩, ty, pos, after, guard⟩ s = some true) (aa : s.look x = some (aQ r.v)) (ag : s.look y = some (cI z m news)) (a6 : z = r.sz) (bQ : Nat.blt 0 r.sz = true) (ak : news.all AC.bc = true) (hd : Nat.blt d s.n = true) (af : Nat.min m r.n = k) (he : ey r.aV 0 (news.take (k * r.sz)) = zs) (pr : rE dr ⟨some d, .call ⟨.builtin .copy, #[x, y], #[tt, t2]⟩, ty, pos, after, guard⟩ = false)
    (h : cL P ops dr K rest (bM R i ⟨r.e, r.sz, r.v, r.n, zs⟩) (s.put (some d) (aW (k : Int)))) : cL P ops dr K (⟨some d, .call ⟨.builtin .copy, #[x, y], #[tt, t2]⟩, ty, pos, after, guard⟩ :: rest) R s := by
  subst a6 af he;refine ⟨true, hw, kI hd, .inr (.inl ⟨rfl, d, _, _, rfl, ⟨.copy i r tt t2 m 0 r.n x y news hi (by simpa [Nat.blt_eq] using bQ) rfl S.h (.inl ⟨aa, rfl, rfl⟩) (.inl ag) (eC _) (dL _) (cu.1 ak), pr⟩, fun aZ hv => ?_⟩)⟩;subst hv;simpa using h
theorem MJ {tt t2 m z k lo hi : Nat} {u : Value} {r : bL} {x y : Operand} {news zs : List AC} (i : Nat) [S : hH P tt z] (de : R i = some r) (hw : want ops ⟨some d, .call ⟨.builtin .copy, #[x, y], #[tt, t2]⟩, ty, pos, after, guard⟩ s = some true) (aa : s.look x = some (aQ u)) (hu : ix r.v r.sz lo hi u) (ag : s.look y = some (cI z m news)) (a6 : z = r.sz) (bQ : Nat.blt 0 r.sz = true) (h1 : lo ≤ hi) (h2 : hi ≤ r.n) (ak : news.all AC.bc = true) (hd : Nat.blt d s.n = true) (af : Nat.min m (hi - lo) = k) (he : ey r.aV (lo * r.sz) (news.take (k * r.sz)) = zs) (pr : rE dr ⟨some d, .call ⟨.builtin .copy, #[x, y], #[tt, t2]⟩, ty, pos, after, guard⟩ = false)
    (h : cL P ops dr K rest (bM R i ⟨r.e, r.sz, r.v, r.n, zs⟩) (s.put (some d) (aW (k : Int)))) : cL P ops dr K (⟨some d, .call ⟨.builtin .copy, #[x, y], #[tt, t2]⟩, ty, pos, after, guard⟩ :: rest) R s := by
  subst a6 af he;exact ⟨true, hw, kI hd, .inr (.inl ⟨rfl, d, _, _, rfl, ⟨.copy i r tt t2 m lo hi x y news de (by simpa [Nat.blt_eq] using bQ) rfl S.h (.inr (.inr ⟨u, aa, hu⟩)) (.inl ag) h1 h2 (cu.1 ak), pr⟩, fun aZ hv => by subst hv; exact h⟩)⟩
theorem Yp {tt t2 m z k lo hi ef dO : Nat} {u cF : Value} {r : bL} {x y : Operand} {zs : List AC} (i : Nat) [S : hH P tt z] (de : R i = some r) (hw : want ops ⟨some d, .call ⟨.builtin .copy, #[x, y], #[tt, t2]⟩, ty, pos, after, guard⟩ s = some true) (aa : s.look x = some (aQ u)) (hu : ix r.v r.sz lo hi u) (ag : s.look y = some (aQ cF)) (Yz : ix r.v r.sz ef dO cF) (hm : ef + m = dO) (bW : dO ≤ r.n) (a6 : z = r.sz) (bQ : Nat.blt 0 r.sz = true) (h1 : lo ≤ hi) (h2 : hi ≤ r.n) (ak : r.aV.all AC.bc = true) (hd : Nat.blt d s.n = true) (af : Nat.min m (hi - lo) = k) (he : ey r.aV (lo * r.sz) (((r.aV.drop (ef * r.sz)).take (m * r.sz)).take (k * r.sz)) = zs) (pr : rE dr ⟨some d, .call ⟨.builtin .copy, #[x, y], #[tt, t2]⟩, ty, pos, after, guard⟩ = false)
    (h : cL P ops dr K rest (bM R i ⟨r.e, r.sz, r.v, r.n, zs⟩) (s.put (some d) (aW (k : Int)))) : cL P ops dr K (⟨some d, .call ⟨.builtin .copy, #[x, y], #[tt, t2]⟩, ty, pos, after, guard⟩ :: rest) R s := by
  subst hm a6 af he;exact ⟨true, hw, kI hd, .inr (.inl ⟨rfl, d, _, _, rfl, ⟨.copy i r tt t2 m lo hi x y _ de (by simpa [Nat.blt_eq] using bQ) rfl S.h (.inr (.inr ⟨u, aa, hu⟩)) (.inr ⟨i, r, ef, cF, de, rfl, ag, Yz, bW, rfl⟩) h1 h2 (fun q al => cu.1 ak q (mO (oM al))), pr⟩, fun aZ hv => by subst hv; exact h⟩)⟩
theorem zd {x y : Operand} {st off : Nat} {r : bL} {z : bG} {ez : TypeInfo} (i : Nat) (hi : R i = some r) (hw : want ops ⟨none, .store st x y, ty, pos, after, guard⟩ s = some true) (aa : s.look x = some (aQ (jg r.v off))) (ag : s.look y = some (.w z)) (aF : 0 < r.n) (aE : P.info? st = some ez) (hs : ez.size = z.cells.length) (ab : off + z.cells.length ≤ r.aV.length) (ak : z.cells.all AC.bc = true)
    (h : cL P ops dr K rest (bM R i ⟨r.e, r.sz, r.v, r.n, ey r.aV off z.cells⟩) s) (jx : Qx dr ⟨none, .store st x y, ty, pos, after, guard⟩ = true := by exact rfl) : cL P ops dr K (⟨none, .store st x y, ty, pos, after, guard⟩ :: rest) R s :=
  ⟨true, hw, (fun d hd => by cases hd), .inr (.inr (.inl ⟨rfl, jx, _, rfl, .store i r off st x y z ez hi aF rfl aa ag aE hs ab (cu.1 ak), h⟩))⟩
theorem za {x : Operand} {lt off : Nat} {r : bL} {c1 : AC} (i : Nat) [T : fM P lt false 1] (hi : R i = some r) (hw : want ops ⟨some d, .load lt x, ty, pos, after, guard⟩ s = some true) (aa : s.look x = some (aQ (jg r.v off))) (aF : 0 < r.n) (a6 : r.aV[off]? = some c1) (ak : (ai.w (.one c1)).bc = true) (aq : tZ ops dr (some d) = true) (hd : Nat.blt d s.n = true) (h : cL P ops dr K rest R (s.put (some d) (.w (.one c1)))) : cL P ops dr K (⟨some d, .load lt x, ty, pos, after, guard⟩ :: rest) R s :=
  zc hw (.load i r off lt x _ hi aF rfl aa (by
    have dY := T.h;unfold j7 at dY;unfold pick;cases hu : P.underlying lt with
    | none => rw [hu] at dY; cases dY
    | some D =>
      cases gX : P.info? lt with
      | none => rw [hu, gX] at dY; cases D <;> simp at dY <;> simp [a6]
      | some ez =>
        rw [hu, gX] at dY;cases D <;> simp at dY <;> simp [a6])) ak aq hd h
theorem aR {next : aJ → aD → Prop} (h : next R s) : Ag next Q .normal R s := h
theorem j5 {next : aJ → aD → Prop} {i : Nat} (h : Q (.exit i) R s) : Ag next Q (.exit i) R s := h
theorem hh {next : aJ → aD → Prop} (h : Q .ret R s) : Ag next Q .ret R s := h
theorem j3 {i : Nat} (h : Q .normal R s) : xt i Q .normal R s := h
theorem sA {i : Nat} (h : Q .ret R s) : xt i Q .ret R s := h
theorem j4 {i : Nat} (h : Q .normal R s) : xt i Q (.exit i) R s := by simp only [xt, Nat.beq_refl, cond_true]; exact h
end
section
variable {P : Program} {s : aD} {ops : Array Oper} {K : aD → Prop} {rest : List Oper} {ty : Nat} {pos : String} {after : Array Edge} {guard : Option (Nat × Bool)} {d : Nat}
theorem Tl {fn : Fn} {xs : List Operand} {cs : List AC} (hw : want ops ⟨some d, .makeFunc fn #[] xs.toArray, ty, pos, after, guard⟩ s = some true) (aa : xs.map s.look = cs.map fun x => some (.w (.one x))) (ak : cs.all AC.bc = true) (hd : Nat.blt d s.n = true) (h : bj P ops K rest (s.put (some d) (.w (.one (.p (oU fn cs)))))) : bj P ops K (⟨some d, .makeFunc fn #[] xs.toArray, ty, pos, after, guard⟩ :: rest) s := by
 have hlen : xs.length = cs.length := by have := congrArg List.length aa; simpa using this
 have gn : ∀ (i : Nat) (z : Operand), xs[i]? = some z → ∃ x, cs[i]? = some x ∧ s.look z = some (.w (.one x)) := fun i z a6 => by
  have h1 : (xs.map s.look)[i]? = some (s.look z) := by rw [eD, a6]; rfl
  rw [aa, eD] at h1;cases al : cs[i]? with
  | none => rw [al] at h1; cases h1
  | some x => rw [al] at h1; exact ⟨x, rfl, (mo h1).symm⟩
 refine fO (av := .w (.one (.p (oU fn cs)))) hw ⟨fun _ _ h => (by cases h), fun z a6 => ?_, fun U ad W env he => ⟨.func fn #[] (xs.map env).toArray, ?_, ?_⟩, fun j ae => absurd ae (lh _ j)⟩ hd h
 ·simp [Op.operands] at a6;obtain ⟨i, hi⟩ := jX a6;obtain ⟨x, _, h2⟩ := gn i z hi;exact ⟨_, h2⟩
 ·simp [execOp, Instr.makeFunc]
 ·have nj : ∀ (i : Nat) (x : AC) (u : Value), cs[i]? = some x → (xs.map env)[i]? = some u → gm U ad W x u := fun i x u w4 hu => by
   rw [eD] at hu;cases a6 : xs[i]? with
   | none => rw [a6] at hu; cases hu
   | some z =>
    rw [a6] at hu;cases hu;obtain ⟨x', h1, h2⟩ := gn i z a6;rw [w4] at h1;cases h1;exact he z (by simp [Op.operands]; exact dF a6) _ h2
  have cO : ∀ x ∈ cs, ∀ j, ¬ x.owns j := fun x aa j => AC.dw (cu.1 ak x aa) j;refine ⟨⟨xs.map env, rfl, ⟨by simpa using hlen.symm, fun i x u w4 hu => ?_⟩, cO⟩, ?_⟩
  ·have h1 := nj i x u w4 hu;cases x with
   | c y => exact h1
   | own k o => exact absurd rfl (cO _ (dF w4) k)
   | p R => exact ⟨h1.1, fun _ _ => trivial⟩
  ·rintro b ⟨vE, e, i, x, u, w4, hu, ab⟩;have bu : xs.map env = vE := by simpa using e
   subst bu;have h1 := nj i x u w4 hu;cases x with
   | c y => cases ab
   | own k o => cases ab
   | p R => exact h1.2 b ab
end
def ti (s : aD) (k j : Nat) : Bool := !(Nat.beq j k) && (match s.mem j with | some ds => ds.all AC.bc | none => false)
def Ce (s : aD) (k : Nat) (cs : List AC) : Option ai → Option ai
 | some (.w (.one (.own j off))) => bif Nat.beq j k then some (.w (.one (.p (EX (cs.drop off))))) else bif ti s k j then some (.w (.one (.own j off))) else none
 | some av => bif av.bc then some av else none
 | none => none
def n7 (s : aD) (k : Nat) (cs : List AC) : aD := ⟨s.n, fun t => Ce s k cs (s.tmps t), fun j => bif ti s k j then s.mem j else none⟩
theorem F7 {s : aD} {k j : Nat} (h : ti s k j = true) : j ≠ k ∧ ∃ ds, s.mem j = some ds ∧ ds.all AC.bc = true := by
 unfold ti at h;simp only [dQ, so] at h;refine ⟨fun e => by subst e; simp at h, ?_⟩;cases hm : s.mem j with
 | none => rw [hm] at h; simp at h
 | some ds => rw [hm] at h; exact ⟨ds, rfl, h.2⟩
theorem V3 {s : aD} {k : Nat} {cs : List AC} (ok : s.cN) : (n7 s k cs).cN := by
 refine ⟨fun t av j aE ae => ?_, fun i ds x j hi aa ae => ?_⟩
 ·have key : ∀ o, Ce s k cs o = some av → ∃ ds, (n7 s k cs).mem j = some ds := by
   intro o ax;unfold Ce at ax
   split at ax
   ·rename_i eL off;cases ab : Nat.beq eL k with
    | true => rw [ab] at ax; simp at ax; subst ax; obtain ⟨y, ag, ae⟩ := ae; simp [bG.cells] at ag; subst ag; cases ae
    | false =>
     rw [ab] at ax;cases af : ti s k eL with
     | false => rw [af] at ax; simp at ax
     | true =>
      rw [af] at ax;simp at ax;subst ax;obtain ⟨y, ag, ae⟩ := ae;simp [bG.cells] at ag;subst ag;have e : j = eL := ae;subst e;obtain ⟨_, ds, hm, _⟩ := F7 af;exact ⟨ds, by simp only [n7, af, cond_true]; exact hm⟩
   ·rename_i Ki _;cases ak : Ki.bc with
    | false => rw [ak] at ax; simp at ax
    | true => rw [ak] at ax; simp at ax; subst ax; exact absurd ae (ai.dw ak j)
   ·cases ax
  exact key _ aE
 ·simp only [n7] at hi;cases af : ti s k i with
  | false => rw [af] at hi; simp at hi
  | true =>
   rw [af] at hi;simp at hi;obtain ⟨_, Vc, hm, ak⟩ := F7 af;rw [hm] at hi;cases hi;exact absurd ae (AC.dw (cu.1 ak x aa) j)
theorem V4 {s : aD} {k : Nat} {cs : List AC} {W : World} {A : Nat → Prop} {ad : Nat → Nat} {a : Act} {w : World} (af : s.mem k = some cs) (cO : cs.all AC.bc = true) (ay : Rel (eS.all W) A s ad a w) : Rel (eS.all W) A (n7 s k cs) ad a w := by
 have pv : ∀ j ds, (n7 s k cs).mem j = some ds → j ≠ k ∧ s.mem j = some ds := fun j ds ae => by
  simp only [n7] at ae;cases ab : ti s k j with
  | false => rw [ab] at ae; simp at ae
  | true => rw [ab] at ae; simp at ae; exact ⟨(F7 ab).1, ae⟩
 have jr : ∀ b, s.free A ad b → (n7 s k cs).free A ad b := fun b ab => ⟨ab.1, fun j ds ae => ab.2 j ds (pv j ds ae).2⟩;obtain ⟨vs, aiG, g1, g2, g3⟩ := ay.du k cs af
 have WH : A (ad k) := ay.up _ (by
  have : ¬ ad k < W.heap.size := g3;show W.heap.size ≤ ad k;omega)
 have bi : ad k < w.heap.size := ay.lt af
 have XD : (n7 s k cs).free A ad (ad k) := ⟨WH, fun j ds ae e => by
  obtain ⟨h1, h2⟩ := pv j ds ae;exact h1 (ay.inj j k _ _ h2 af e)⟩
 have rR : ∀ y ∈ cs, y.bc = true := cu.1 cO;refine ⟨ay.pD, ay.size, fun t av aE => ?_, fun j ds ae => ?_, fun j eL c1 c2 h1 h2 e => ay.inj j eL _ _ (pv j c1 h1).2 (pv eL c2 h2).2 e, ay.below, ay.up, ay.jQ⟩
 ·simp only [n7] at aE;cases ax : s.tmps t with
  | none => rw [ax] at aE; cases aE
  | some o =>
   rw [ax] at aE;obtain ⟨v, h1, h2⟩ := ay.gK t o ax;refine ⟨v, h1, ?_⟩;have ap : dc ((n7 s k cs).free A ad) ad w o v := h2.map (fun b ab _ => ⟨jr b ab, rfl⟩) fun _ _ => rfl;unfold Ce at aE
   split at aE
   ·rename_i eL off rV;cases rV;cases ab : Nat.beq eL k with
    | true =>
     rw [ab] at aE;simp at aE;subst aE;have e : eL = k := gS ab;subst e;have hv : v = .pointer (some ⟨ad eL, off, none⟩) := h2;subst hv
     have qn : kA w ⟨ad eL, off, none⟩ (cs.drop off) (vs.drop off) := by
      refine ⟨bi, ⟨by simp [g2.1], fun i x u aa hu => ?_⟩, fun i u hu => ?_, fun y ag => rR y (mO ag)⟩
      ·rw [gj] at aa hu;have dx := g2.2 _ x u aa hu;have Xg := rR x (dF aa);cases x with
       | c y => exact dx
       | own k o => cases Xg
       | p S => exact ⟨dx.1, fun _ _ => trivial⟩
      ·rw [gj] at hu;have kk : (⟨ad eL, off, none⟩ : Addr).add i = ⟨ad eL, off + i, none⟩ := by unfold Addr.add; split <;> simp_all
       rw [kk];simp only [World.cell?, g1];simpa using hu
     refine ⟨⟨_, _, rfl, qn⟩, ?_⟩;rintro b ⟨a', e, au⟩;cases e;rcases au with rfl | ⟨i, y, u, ag, hu, gf⟩
     ·exact XD
     ·rw [gj] at ag;have Ms : off + i < vs.length := by rw [← g2.1]; exact (bS.1 ag).1
      have gd := qn.at_ i vs[off + i] (by rw [gj]; exact cm Ms);rw [hu] at gd;cases gd;have mC := g2.2 _ y _ ag (cm Ms);cases y with
      | c y => cases gf
      | own k o => cases gf
      | p S => exact jr b (mC.2 b gf)
    | false =>
     rw [ab] at aE;cases oc : ti s k eL with
     | false => rw [oc] at aE; simp at aE
     | true => rw [oc] at aE; simp at aE; subst aE; exact ap
   ·rename_i Ki rV;cases rV;cases ak : ai.bc o with
    | false => rw [ak] at aE; simp at aE
    | true => rw [ak] at aE; simp at aE; subst aE; exact ap
   ·rename_i rV; cases rV
 ·obtain ⟨h1, h2⟩ := pv j ds ae;obtain ⟨us, ae7, q1, q2, b5⟩ := ay.du j ds h2;exact ⟨us, ae7, q1, q2.map (fun b ab _ => ⟨jr b ab, rfl⟩) fun _ _ _ _ => rfl, b5⟩
section
variable {P : Program} {x y : Code} {Q : Exit → aD → Prop} {s : aD}
theorem Fq (h : fo P x Q s) : sN P x Q s := fun ok W A ad a w ay => (h ok (eS.all W) A ad a w ay).top
theorem Kn (h : sN P x (rA (fun s' => sN P y Q s') Q) s) : sN P (.seq x y) Q s := by
 intro ok W A ad a w ay;refine wp_seq (wp_mono (h ok W A ad a w ay) ?_);rintro e a' w' ⟨s', bg, dB, cw, al⟩;cases e <;> first | exact al dB W A bg a' w' cw | exact ⟨s', bg, dB, cw, al⟩
theorem Km (k : Nat) (cs : List AC) (af : s.mem k = some cs) (cO : cs.all AC.bc = true) (h : sN P x Q (n7 s k cs)) : sN P x Q s := by
 intro ok W A ad a w ay;exact h (V3 ok) W A ad a w (V4 af cO ay)
end
def Sq (z n : Nat) (xs : List AC) : eZ where
 holds w v := (cz z n xs).holds w v ∧ ∃ A, v = .slice A n n
 la := (cz z n xs).la
 frame w w' v := by
  rintro ⟨h1, h2⟩ au;have := (cz z n xs).frame w w' v h1 au;exact ⟨⟨this.1, h2⟩, this.2⟩
 ib w v b := by
  rintro ⟨h1, h2⟩ au;exact (cz z n xs).ib w v b h1 au
 cell w v := by
  rintro ⟨h1, h2⟩;exact (cz z n xs).cell w v h1
theorem kR {n : Nat} (h : n ≤ 1000000) : n ≤ maxLen := ln h (by decide)
abbrev EB (z n : Nat) (xs : List AC) : ai := .w (.one (.p (Sq z n xs)))
section
variable {P : Program} {U : Nat → Prop} {ad : Nat → Nat} {W W' : World}
theorem Ei {z n l h c c' : Nat} {xs : List AC} {A : Option Addr} (aa : dc U ad W (cI z n xs) (.slice A n c)) (h1 : l ≤ h) (h2 : h ≤ n) (ap : h ≤ c') : dc U ad W (cI z (h - l) ((xs.drop (l * z)).take ((h - l) * z))) (sliced A l h c' z) := by
 obtain ⟨⟨ei, k4, aI, ak, an, dS⟩, dy⟩ := aa;cases aI;have hm : (h - l) * z ≤ n * z - l * z := by rw [← Nat.sub_mul]; exact jZ _ (by omega)
 refine ⟨⟨if c' = l then A else A.map (·.add (l * z)), c' - l, rfl, by omega, by rw [eg, hT, an]; exact pJ hm, fun aF => ?_⟩, ?_⟩
 ·obtain ⟨a, vs, rfl, et⟩ := dS (by omega);have cn : ¬ c' = l := by omega
  rw [if_neg cn];exact ⟨a.add (l * z), _, rfl, et.sub (l * z) ((h - l) * z)⟩
 ·rintro b ⟨c2, a', q, aF, au⟩;obtain ⟨a, vs, rfl, et⟩ := dS (by omega);have cn : ¬ c' = l := by omega
  unfold sliced at q;rw [if_neg cn] at q;simp at q;obtain ⟨rfl, _⟩ := q;exact dy b ⟨c, a, rfl, by omega, mB.sub (off := l * z) (n := (h - l) * z) au⟩
theorem LC {z n c : Nat} {xs : List AC} {vs : List Value} {cur : Array Value} {e : TypeId} (an : bP U id W xs vs) (cO : ∀ y ∈ xs, y.bc = true) (hlen : xs.length = n * z) (eK : n ≤ c) (hold : ∀ b, b < W.heap.size → W'.heap[b]? = W.heap[b]?) (pw : W'.heap[W.heap.size]? = some (.cells cur e (0, 0))) (Xp : cur.toList.take (n * z) = vs) : dc (fun b => U b ∨ W.heap.size ≤ b) ad W' (cI z n xs) (.slice (some ⟨W.heap.size, 0, none⟩) n c) := by
 have bi : W.heap.size < W'.heap.size := (ku.1 pw).1;have hq : bP U id W' xs vs := an.map (fun b ab bi => ⟨ab, hold b bi⟩) (fun _ _ _ _ => rfl)
 have gn : ∀ (j : Nat) v, vs[j]? = some v → W'.cell? ((⟨W.heap.size, 0, none⟩ : Addr).add j) = some v := fun j v hv => by
  have kk : (⟨W.heap.size, 0, none⟩ : Addr).add j = ⟨W.heap.size, j, none⟩ := by unfold Addr.add; split <;> simp_all
  rw [kk, cell_of_row W' _ j cur e (0, 0) pw];rw [← Xp, List.getElem?_take] at hv
  split at hv
  ·simpa using hv
  ·cases hv
 have qn : kA W' ⟨W.heap.size, 0, none⟩ xs vs := ⟨bi, hq.map (fun b _ _ => ⟨trivial, rfl⟩) (fun _ _ _ _ => rfl), gn, cO⟩;refine ⟨⟨some ⟨W.heap.size, 0, none⟩, c, rfl, eK, hlen, fun aF => ⟨_, vs, rfl, qn⟩⟩, ?_⟩;rintro b ⟨c', a', q, aF, au⟩;cases q;rcases au with rfl | ⟨j, y, v, ag, hv, gf⟩
 ·exact .inr (dL _)
 ·have ae : j < vs.length := by rw [← an.1]; exact (bS.1 ag).1
  have h2 := gn j _ (cm ae);rw [hv] at h2;cases h2;have ap := hq.2 j y _ ag (cm ae);cases y with
  | c u => cases gf
  | own k o => cases gf
  | p S => exact .inl (ap.2 b gf)
theorem adV {xs : List AC} {vs : List Value} (h : bP U ad W xs vs) (ak : ∀ y ∈ xs, y.bc = true) : bP U id W xs vs :=
 ⟨h.1, fun i x v aa hv => (h.2 i x v aa hv).map (fun b ab _ => ⟨ab, rfl⟩) fun j ae => absurd ae (AC.dw (ak x (dF aa)) j)⟩
theorem adU {xs aV : List AC} {us vs : List Value} (h1 : bP U ad W xs us) (h2 : bP U ad W aV vs) : bP U ad W (xs ++ aV) (us ++ vs) := by
 refine ⟨by rw [cR, cR, h1.1, h2.1], fun i x v aa hv => ?_⟩;rcases iL i xs.length with bi | ld
 ·rw [fV bi] at aa;rw [fV (by rw [← h1.1]; exact bi)] at hv;exact h1.2 i x v aa hv
 ·rw [gr ld] at aa;rw [gr (by rw [← h1.1]; exact ld), ← h1.1] at hv;exact h2.2 _ x v aa hv
theorem xz {z n : Nat} {xs : List AC} {v : Value} (h : dc U ad W (cI z n xs) v) : ∃ A c vs, v = .slice A n c ∧ n ≤ c ∧ xs.length = n * z ∧ bP U id W xs vs ∧ (∀ y ∈ xs, y.bc = true) ∧ (∀ b, A = some b → ∀ (j : Nat) u, vs[j]? = some u → W.cell? (b.add j) = some u) ∧ (A = none → n = 0) := by
 rcases vp n with rfl | aF
 ·obtain ⟨⟨A, c, e, ak, an, dS⟩, dy⟩ := h;have : xs = [] := mq (by rw [an]; simp);subst this;exact ⟨A, c, [], e, ak, an, ⟨rfl, fun i x v aa => by simp at aa⟩, fun y ag => (by cases ag), fun b _ j u hu => by simp at hu, fun _ => rfl⟩
 ·have aG := h;obtain ⟨b, c, vs, e, ak, an, gn, py⟩ := cz.FB h aF;obtain ⟨⟨A, c', bu, _, _, dS⟩, _⟩ := aG;rw [e] at bu;cases bu;obtain ⟨a, us, h3, et⟩ := dS aF;exact ⟨some b, c, vs, e, ak, an, adV py et.pa, et.pa, fun bK e => by cases e; exact gn, fun e => by cases e⟩
theorem ad0 {tt e z n m bytes ty : Nat} {xs aV : List AC} {x y : Value} (aE : vt P tt e z bytes = true) (aa : dc U ad W (EB z n xs) x) (ag : dc U ad W (cI z m aV) y) (h1 : n + m ≤ maxLen) (h2 : (n + m) * bytes ≤ 140737488355328) :
  ∃ v W', (Builtin.append_ #[tt, tt] ty #[x, y]).run P W = .ok v W' ∧ dc (fun b => U b ∨ W.heap.size ≤ b) ad W' (cI z (n + m) (xs ++ aV)) v ∧ Below W.heap.size W W' := by
 obtain ⟨ez, I9, hu, e1, a6, gY, kL, om, bQ⟩ := qU aE;have kp : dc U ad W (cI z n xs) x := ⟨aa.1.1, aa.2⟩;obtain ⟨bY, K6⟩ := aa.1.2;obtain ⟨A, c, us, ex, eK, kN, MH, Cu, W9, jt⟩ := xz kp;rw [K6] at ex;cases ex;obtain ⟨EI, KV, vs, rfl, ahf, yV, G9, Mc, L8, X2⟩ := xz ag;subst K6;have Gh : n + m ≤ 9223372036854775807 := by simp only [maxLen] at h1; omega
 rcases vp m with rfl | CL
 ·have YM : aV = [] := mq (by rw [yV]; simp);subst YM;refine ⟨.slice bY n n, W, ?_, ?_, Below.refl _ _⟩
  ·cases bY <;> cases EI <;> simp [Builtin.append_, run_underlying hu, sizeOf, typeInfo, e1, Builtin.lenOf, Builtin.firstCells, storeCells, loadCells, loadCellsFrom]
  ·rw [Nat.add_zero, pF];exact dc.map kp (fun b ab _ => ⟨.inl ab, rfl⟩) fun _ _ => rfl
 ·obtain ⟨a, rfl⟩ : ∃ a, EI = some a := by
   cases EI with
   | none => have := X2 rfl; omega
   | some a => exact ⟨a, rfl⟩
  have me : vs.length = m * ez.size := by rw [gY, ← G9.1]; exact yV
  have cO : ∀ q ∈ xs ++ aV, q.bc = true := fun q al => by
   rcases kt.1 al with h | h
   ·exact Cu q h
   ·exact Mc q h
  have hlen : (xs ++ aV).length = (n + m) * z := by rw [cR, kN, yV, jY]
  cases bY with
  | none =>
   have y0 : n = 0 := jt rfl;subst y0;have CU : xs = [] := mq (by rw [kN]; simp);subst CU;have aq := run_append_nil (P := P) W tt ty e ez I9 hu e1 a6 a m KV vs me (L8 a rfl) CL (by omega) (by rw [kL]; simp only [jF] at h2; omega);refine ⟨_, _, aq, ?_, (Below.drew (Below.refl _ W)).alloc (dL _) _⟩;have XX : aV.length = (0 + m) * z := by rw [yV, jF]
   rw [List.nil_append];have dp : 0 + m = m := jF m;rw [dp];refine LC (vs := vs) (e := e) G9 Mc yV (grownCap_ge _ _ _ _) (fun b ab => by first | exact heap_alloc_old W.drew _ b ab | exact heap_alloc_old W.drew _ ab) (heap_alloc_new W.drew _) ?_;rw [Array.toList_append, List.toList_toArray, z7 (by rw [me, gY]; exact dL _), hA (by rw [me, gY]; exact dL _)]
  | some b =>
   have w0 : us.length = n * ez.size := by rw [gY, ← MH.1]; exact kN
   have aq := run_append_grow (P := P) W tt ty e ez I9 hu e1 a6 b n n us w0 (W9 b rfl) a m KV vs me (L8 a rfl) (by omega) (by omega) (growslice_fits (by omega) (by rw [kL]; exact h2));refine ⟨_, _, aq, ?_, (Below.drew (Below.refl _ W)).alloc (dL _) _⟩;refine LC (vs := us ++ vs) (e := e) (adU MH G9) cO hlen (grownCap_ge _ _ _ _) (fun b ab => by first | exact heap_alloc_old W.drew _ b ab | exact heap_alloc_old W.drew _ ab) (heap_alloc_new W.drew _) ?_;have mE : (us ++ vs).length = (n + m) * z := by rw [cR, w0, me, gY, jY]
   rw [Array.toList_append, Array.toList_append, List.toList_toArray, List.toList_toArray, z7 (by rw [mE]; exact dL _), hA (by rw [mE]; exact dL _)]
end
section
variable {P : Program} {s : aD} {ops : Array Oper} {K : aD → Prop} {rest : List Oper} {ty : Nat} {pos : String} {after : Array Edge} {guard : Option (Nat × Bool)} {d : Nat}
theorem SW {tt e z n m k bytes : Nat} {x y : Operand} {xs aV zs : List AC} [T : nU P tt e z bytes] (hw : want ops ⟨some d, .call ⟨.builtin .append, #[x, y], #[tt, tt]⟩, ty, pos, after, guard⟩ s = some true) (aa : s.look x = some (EB z n xs)) (ag : s.look y = some (cI z m aV)) (h1 : n + m ≤ maxLen) (h2 : (n + m) * bytes ≤ 140737488355328) (af : n + m = k) (a6 : xs ++ aV = zs) (hd : Nat.blt d s.n = true) (h : bj P ops K rest (s.put (some d) (cI z k zs))) : bj P ops K (⟨some d, .call ⟨.builtin .append, #[x, y], #[tt, tt]⟩, ty, pos, after, guard⟩ :: rest) s := by
 subst af a6;refine Fi (av := cI z (n + m) (xs ++ aV)) hw ⟨fun q al => ?_, fun j ae => lh _ j ae, fun U ad W env he => ?_⟩ hd h
 ·simp [Op.operands, Call.operands] at al;rcases al with rfl | rfl
  ·exact ⟨_, aa⟩
  ·exact ⟨_, ag⟩
 ·obtain ⟨v, W', aq, ap, aL⟩ := ad0 (ty := ty) T.h (he x (by simp [Op.operands, Call.operands]) _ aa) (he y (by simp [Op.operands, Call.operands]) _ ag) h1 h2;exact ⟨v, W', by simp only [execOp, resolve, invoke, builtin, Sem.run_bind, Sem.run_pure, Result.andThen_ok, List.map_toArray, kv, List.map_nil, aq], ap, aL⟩
theorem To {t sz e bytes : Nat} [S : hH P t sz] [T : nU P t e sz bytes] (hw : want ops ⟨some d, .buildSlice t 0 #[], ty, pos, after, guard⟩ s = some true) (hd : Nat.blt d s.n = true) (h : bj P ops K rest (s.put (some d) (EB sz 0 []))) : bj P ops K (⟨some d, .buildSlice t 0 #[], ty, pos, after, guard⟩ :: rest) s := by
 refine Fi (av := EB sz 0 []) hw ⟨fun q al => ?_, fun j ae => lh _ j ae, fun U ad W env he => ?_⟩ hd h
 ·simp [Op.operands] at al
 ·obtain ⟨ez, I9, hu, e1, a6, gY, kL, om, bQ⟩ := qU T.h;refine ⟨.slice (some ⟨W.heap.size, 0, none⟩) 0 0, W.alloc (.cells #[] e), ?_, ⟨⟨⟨_, 0, rfl, dL _, by simp, fun h => absurd h (Nat.lt_irrefl _)⟩, _, rfl⟩, fun b ⟨c, a, q, aF, _⟩ => absurd aF (Nat.lt_irrefl _)⟩, (Below.refl _ _).alloc (dL _) _⟩;simp [execOp, Instr.buildSlice, Sem.run_bind, run_underlying hu, hj e1, Instr.fill, newRow, newObj, Sem.run, Array.range_zero']
theorem Ke {tt z n m : Nat} {x y : Operand} {l : Int} {xs aV : List AC} [S : hH P tt z] (hw : want ops ⟨some d, .slice tt x (some y) none none, ty, pos, after, guard⟩ s = some true) (aa : s.look x = some (cI z n xs)) (ag : s.look y = some (aW l)) (aG : 0 ≤ l) (h1 : l ≤ n) (hm : n - l.toNat = m) (he : (xs.drop (l.toNat * z)).take (m * z) = aV) (hd : Nat.blt d s.n = true) (h : bj P ops K rest (s.put (some d) (cI z m aV))) : bj P ops K (⟨some d, .slice tt x (some y) none none, ty, pos, after, guard⟩ :: rest) s := by
 subst hm he;refine fO (av := cI z (n - l.toNat) ((xs.drop (l.toNat * z)).take ((n - l.toNat) * z))) hw ⟨fun _ _ h => (by cases h), fun q al => ?_, fun U ad W env he => ?_, fun j ae => absurd ae (lh _ j)⟩ hd h
 ·simp [Op.operands] at al;rcases al with rfl | rfl
  ·exact ⟨_, aa⟩
  ·exact ⟨_, ag⟩
 ·have hv := he x (by simp [Op.operands]) _ aa;obtain ⟨A, c, us, ex, eK, _⟩ := xz hv;rw [ex] at hv;have kg : env y = .int .i64 l := (he y (by simp [Op.operands]) _ ag).1;obtain ⟨bu, ft, hu, de, hs⟩ := ms S.h;have e2 : P.underlying tt = some (.slice (P.elem tt)) := by rw [kf hu]; exact hu
  refine ⟨_, ?_, Ei (c' := c) hv (by omega) (by omega) (by omega)⟩;simp only [execOp, ex, gH, su, kg, Sem.run_bind, run_sliceAt_slice W tt _ _ _ _ e2, run_slice_l W tt A n c e2 .i64 l aG h1, kf hu, hj de, Result.andThen_ok, hs, Sem.run_pure]
theorem afL {tt z n m : Nat} {x y u : Operand} {l r : Int} {xs aV : List AC} [S : hH P tt z] (hw : want ops ⟨some d, .slice tt x (some y) (some u) none, ty, pos, after, guard⟩ s = some true) (aa : s.look x = some (cI z n xs)) (ag : s.look y = some (aW l)) (hu : s.look u = some (aW r)) (aG : 0 ≤ l) (h1 : l ≤ r) (h2 : r ≤ n) (hm : r.toNat - l.toNat = m) (he : (xs.drop (l.toNat * z)).take (m * z) = aV) (hd : Nat.blt d s.n = true) (h : bj P ops K rest (s.put (some d) (cI z m aV))) : bj P ops K (⟨some d, .slice tt x (some y) (some u) none, ty, pos, after, guard⟩ :: rest) s := by
 subst hm he;refine fO (av := cI z (r.toNat - l.toNat) ((xs.drop (l.toNat * z)).take ((r.toNat - l.toNat) * z))) hw ⟨fun _ _ h => (by cases h), fun q al => ?_, fun U ad W env he => ?_, fun j ae => absurd ae (lh _ j)⟩ hd h
 ·simp [Op.operands] at al;rcases al with rfl | rfl | rfl
  ·exact ⟨_, aa⟩
  ·exact ⟨_, ag⟩
  ·exact ⟨_, hu⟩
 ·have hv := he x (by simp [Op.operands]) _ aa;obtain ⟨A, c, us, ex, eK, _⟩ := xz hv;rw [ex] at hv;have kg : env y = .int .i64 l := (he y (by simp [Op.operands]) _ ag).1;have rL : env u = .int .i64 r := (he u (by simp [Op.operands]) _ hu).1;obtain ⟨bu, ft, hu, de, hs⟩ := ms S.h;have e2 : P.underlying tt = some (.slice (P.elem tt)) := by rw [kf hu]; exact hu
  refine ⟨_, ?_, Ei (c' := c) hv (by omega) (by omega) (by omega)⟩;simp only [execOp, ex, gH, su, kg, rL, Sem.run_bind, run_sliceAt_slice W tt _ _ _ _ e2, run_slice_lh W tt A n c e2 .i64 .i64 l r aG h1 (by omega), kf hu, hj de, Result.andThen_ok, hs, Sem.run_pure]
theorem Fk {tt z n m : Nat} {x y u : Operand} {r k : Int} {xs aV : List AC} [S : hH P tt z] (hw : want ops ⟨some d, .slice tt x none (some y) (some u), ty, pos, after, guard⟩ s = some true) (aa : s.look x = some (cI z n xs)) (ag : s.look y = some (aW r)) (hu : s.look u = some (aW k)) (aG : 0 ≤ r) (h1 : r ≤ k) (h2 : k ≤ n) (hm : r.toNat - 0 = m) (he : (xs.drop (0 * z)).take (m * z) = aV) (hd : Nat.blt d s.n = true) (h : bj P ops K rest (s.put (some d) (cI z m aV))) : bj P ops K (⟨some d, .slice tt x none (some y) (some u), ty, pos, after, guard⟩ :: rest) s := by
 subst hm he;refine fO (av := cI z (r.toNat - 0) ((xs.drop (0 * z)).take ((r.toNat - 0) * z))) hw ⟨fun _ _ h => (by cases h), fun q al => ?_, fun U ad W env he => ?_, fun j ae => absurd ae (lh _ j)⟩ hd h
 ·simp [Op.operands] at al;rcases al with rfl | rfl | rfl
  ·exact ⟨_, aa⟩
  ·exact ⟨_, ag⟩
  ·exact ⟨_, hu⟩
 ·have hv := he x (by simp [Op.operands]) _ aa;obtain ⟨A, c, us, ex, eK, _⟩ := xz hv;rw [ex] at hv;have kg : env y = .int .i64 r := (he y (by simp [Op.operands]) _ ag).1;have rL : env u = .int .i64 k := (he u (by simp [Op.operands]) _ hu).1;obtain ⟨bu, ft, hu, de, hs⟩ := ms S.h;have e2 : P.underlying tt = some (.slice (P.elem tt)) := by rw [kf hu]; exact hu
  refine ⟨_, ?_, Ei (c' := k.toNat) hv (by omega) (by omega) (by omega)⟩;simp only [execOp, ex, gH, su, kg, rL, Sem.run_bind, run_sliceAt_slice W tt _ _ _ _ e2, run_slice_hm W tt A n c e2 .i64 .i64 r k aG h1 (by omega), kf hu, hj de, Result.andThen_ok, hs, Sem.run_pure]
theorem Fl {tt z n m : Nat} {x y u q : Operand} {l r k : Int} {xs aV : List AC} [S : hH P tt z] (hw : want ops ⟨some d, .slice tt x (some y) (some u) (some q), ty, pos, after, guard⟩ s = some true) (aa : s.look x = some (cI z n xs)) (ag : s.look y = some (aW l)) (hu : s.look u = some (aW r)) (al : s.look q = some (aW k)) (aG : 0 ≤ l) (h1 : l ≤ r) (h2 : r ≤ k) (ap : k ≤ n) (hm : r.toNat - l.toNat = m) (he : (xs.drop (l.toNat * z)).take (m * z) = aV) (hd : Nat.blt d s.n = true) (h : bj P ops K rest (s.put (some d) (cI z m aV))) : bj P ops K (⟨some d, .slice tt x (some y) (some u) (some q), ty, pos, after, guard⟩ :: rest) s := by
 subst hm he;refine fO (av := cI z (r.toNat - l.toNat) ((xs.drop (l.toNat * z)).take ((r.toNat - l.toNat) * z))) hw ⟨fun _ _ h => (by cases h), fun q al => ?_, fun U ad W env he => ?_, fun j ae => absurd ae (lh _ j)⟩ hd h
 ·simp [Op.operands] at al;rcases al with rfl | rfl | rfl | rfl
  ·exact ⟨_, aa⟩
  ·exact ⟨_, ag⟩
  ·exact ⟨_, hu⟩
  ·exact ⟨_, al⟩
 ·have hv := he x (by simp [Op.operands]) _ aa;obtain ⟨A, c, us, ex, eK, _⟩ := xz hv;rw [ex] at hv;have kg : env y = .int .i64 l := (he y (by simp [Op.operands]) _ ag).1;have rL : env u = .int .i64 r := (he u (by simp [Op.operands]) _ hu).1;have eq : env q = .int .i64 k := (he q (by simp [Op.operands]) _ al).1;obtain ⟨bu, ft, hu, de, hs⟩ := ms S.h;have e2 : P.underlying tt = some (.slice (P.elem tt)) := by rw [kf hu]; exact hu
  refine ⟨_, ?_, Ei (c' := k.toNat) hv (by omega) (by omega) (by omega)⟩;simp only [execOp, ex, gH, su, kg, rL, eq, Sem.run_bind, run_sliceAt_slice W tt _ _ _ _ e2, run_slice_lhm W tt A n c e2 .i64 .i64 .i64 l r k aG h1 h2 (by omega), kf hu, hj de, Result.andThen_ok, hs, Sem.run_pure]
end
def b3 : List (Int × Int) → List AC
 | [] => []
 | p :: l => .c (.int .i64 p.1) :: .c (.int .i64 p.2) :: b3 l
abbrev hk (l : List (Int × Int)) : ai := cI 2 l.length (b3 l)
theorem Nf : ∀ (l : List (Int × Int)) (i : Nat) (p : Int × Int), l[i]? = some p → ((b3 l).drop (i * 2)).take 2 = [.c (.int .i64 p.1), .c (.int .i64 p.2)]
 | [], i, p, h => by simp at h
 | q :: l, 0, p, h => by simp at h; subst h; simp [b3]
 | q :: l, i + 1, p, h => by
  have e : (i + 1) * 2 = i * 2 + 1 + 1 := by omega
  rw [e];simp only [b3, List.drop_succ_cons];exact Nf l i p (by simpa using h)
theorem va {l : List (Int × Int)} {j : Int} {i : Nat} {x y : Int} (ae : j = i) (h : l[i]? = some (x, y)) : ((b3 l).drop (j.toNat * 2)).take 2 = [.c (.int .i64 x), .c (.int .i64 y)] := by
 subst ae;exact Nf l i (x, y) h
theorem nw : ∀ (l : List (Int × Int)), (b3 l).length = l.length * 2
 | [] => rfl
 | p :: l => by simp only [b3, lm, nw l]; omega
theorem r7 : ∀ (l m : List (Int × Int)), b3 (l ++ m) = b3 l ++ b3 m
 | [], _ => rfl
 | p :: l, m => by simp only [List.cons_append, b3, r7 l m]
theorem u7 : ∀ (l : List (Int × Int)), (b3 l).all AC.bc = true
 | [] => rfl
 | p :: l => by simp only [b3, j1, u7 l]; rfl
def cD (l : List Int) : List AC := l.map fun x => .c (.int .i64 x)
abbrev nN (l : List Int) : ai := cI 1 l.length (cD l)
theorem CZ {l : List Int} {j : Int} {i : Nat} {x : Int} (ae : j = i) (h : l[i]? = some x) : ((cD l).drop (j.toNat * 1)).take 1 = [.c (.int .i64 x)] := by
 subst ae;have hi := (bS.1 h).1;rw [kw, Nat.mul_one, nE (by simpa [cD] using hi)];have : l[i] = x := (bS.1 h).2;simp [cD, this]
theorem CY (l m : List Int) : cD (l ++ m) = cD l ++ cD m := by simp [cD]
instance ahx : nU Tryz.prog 51 3 1 8 := ⟨by kernel_rfl⟩
def x4 (x y z w : Int) (fx fy : Bool) : Bool := if x < z then !fx else if z < x then fx else if y < w then !fy else decide (w < y) && fy
end Go.Proofs.YtpochbhajmbfdaaGreat
namespace Go.Proofs.YtpochbhajmbfdaaGreat
abbrev ao := Int × Int
def dA (fx fy : Bool) (p q : ao) : Bool := x4 p.1 p.2 q.1 q.2 fx fy
theorem x2 {fx fy : Bool} {p q : ao} : dA fx fy p q = true ↔ (if fx then q.1 < p.1 else p.1 < q.1) ∨ (p.1 = q.1 ∧ if fy then q.2 < p.2 else p.2 < q.2) := by
 unfold dA x4
 by_cases h1 : p.1 < q.1
 ·cases fx <;> simp [h1] <;> omega
 ·by_cases h2 : q.1 < p.1
  ·cases fx <;> simp [h1, h2] <;> omega
  ·have e : p.1 = q.1 := by omega
   by_cases ap : p.2 < q.2
   ·cases fx <;> cases fy <;> simp [h1, h2, ap, e] <;> omega
   ·cases fx <;> cases fy <;> simp [h1, h2, ap, e] <;> omega
theorem x3 {fx fy : Bool} {p q r : ao} (h1 : dA fx fy p q = true) (h2 : dA fx fy q r = true) : dA fx fy p r = true := by
 rw [x2] at *;cases fx <;> cases fy <;> simp at * <;> omega
theorem J4 {fx fy : Bool} {p : ao} : dA fx fy p p = false := by
 cases h : dA fx fy p p with
 | false => rfl
 | true => rw [x2] at h; cases fx <;> cases fy <;> simp at h
theorem J3 {fx fy : Bool} {p q : ao} (h1 : dA fx fy p q = true) : dA fx fy q p = false := by
 cases h : dA fx fy q p with
 | false => rfl
 | true => have := x3 h1 h; rw [J4] at this; cases this
theorem Fe {fx fy : Bool} {p q : ao} (h : p ≠ q) : dA fx fy p q = true ∨ dA fx fy q p = true := by
 rw [x2, x2]
 have : p.1 ≠ q.1 ∨ p.2 ≠ q.2 := by
  by_cases h1 : p.1 = q.1
  ·exact .inr fun h2 => h (Prod.ext h1 h2)
  ·exact .inl h1
 cases fx <;> cases fy <;> simp <;> omega
def jJ (fx fy : Bool) (l : List ao) : Prop := l.Pairwise fun p q => dA fx fy p q = true
theorem Kh {fx fy : Bool} : ∀ {l m : List ao}, jJ fx fy l → jJ fx fy m → l.Perm m → l = m
 | [], m, _, _, hp => by have := hp.nil_eq; exact this
 | p :: l, [], _, _, hp => by have := hp.length_eq; simp at this
 | p :: l, q :: m, an, hm, hp => by
  have h1 := iN.1 an;have h2 := iN.1 hm
  have e : p = q := by
   rcases gI.1 (hp.mem_iff.1 (kr ..) : p ∈ q :: m) with h | h
   ·exact h
   ·rcases gI.1 (hp.mem_iff.2 (kr ..) : q ∈ p :: l) with aC | aC
    ·exact aC.symm
    ·have a := h1.1 q aC;have b := h2.1 p h;rw [J3 a] at b; cases b
  subst e;rw [Kh h1.2 h2.2 (List.perm_cons p |>.1 hp)]
def lN (fx fy : Bool) (q : ao) : List ao → List ao
 | [] => [q]
 | p :: l => if dA fx fy q p then q :: p :: l else p :: lN fx fy q l
theorem zq (fx fy : Bool) (q : ao) : ∀ l, (lN fx fy q l).Perm (q :: l)
 | [] => .refl _
 | p :: l => by
  unfold lN
  split
  ·exact .refl _
  ·exact ((zq fx fy q l).cons p).trans (.swap q p l)
theorem M9 {fx fy : Bool} {q : ao} : ∀ {l : List ao}, jJ fx fy l → q ∉ l → jJ fx fy (lN fx fy q l)
 | [], _, _ => by unfold lN jJ; simp
 | p :: l, h, aF => by
  have ak := iN.1 h;unfold lN
  split
  ·rename_i al;refine iN.2 ⟨fun r aq => ?_, h⟩;rcases gI.1 aq with rfl | aq
   ·exact al
   ·exact x3 al (ak.1 r aq)
  ·rename_i al;refine iN.2 ⟨fun r aq => ?_, M9 ak.2 fun aC => aF (nD _ aC)⟩;rcases gI.1 ((zq fx fy q l).mem_iff.1 aq) with rfl | aq
   ·rcases Fe (fx := fx) (fy := fy) (p := p) (q := r) (fun e => aF (by rw [e]; exact kr ..)) with aC | aC
    ·exact aC
    ·exact absurd aC al
   ·exact ak.1 r aq
def qX (fx fy : Bool) (f : ao → Bool) (l : List ao) : List ao := l.foldl (fun out q => if f q then lN fx fy q out else out) []
theorem El (fx fy : Bool) (f : ao → Bool) (l : List ao) : (qX fx fy f l).Perm (l.filter f) := by
 have key : ∀ (l out : List ao), (l.foldl (fun out q => if f q then lN fx fy q out else out) out).Perm (out ++ l.filter f) := by
  intro l
  induction l with
  | nil => intro out; simp
  | cons q l cp =>
   intro out;rw [sq, List.filter_cons]
   by_cases al : f q = true
   ·rw [if_pos al, if_pos al];refine (cp _).trans ?_;refine ((zq fx fy q out).append_right _).trans ?_;exact List.perm_middle.symm
   ·rw [if_neg al, if_neg al]; exact cp out
 exact key l []
theorem aeL (fx fy : Bool) (f : ao → Bool) (l : List ao) : (qX fx fy f l).length ≤ l.length := by
 rw [(El fx fy f l).length_eq]; exact List.length_filter_le _ _
theorem aeJ (fx fy : Bool) (f : ao → Bool) {l : List ao} (aF : l.Nodup) : jJ fx fy (qX fx fy f l) := by
 have key : ∀ (l out : List ao), jJ fx fy out → (out ++ l).Nodup → jJ fx fy (l.foldl (fun out q => if f q then lN fx fy q out else out) out) := by
  intro l
  induction l with
  | nil => intro out h _; exact h
  | cons q l cp =>
   intro out h hd;have hm := List.nodup_append.1 hd;have al : q ∉ out := fun lf => hm.2.2 q lf q (kr ..) rfl;rw [sq]
   by_cases au : f q = true
   ·rw [if_pos au];refine cp _ (M9 h al) ?_;have hp : (lN fx fy q out ++ l).Perm (out ++ q :: l) := ((zq fx fy q out).append_right l).trans List.perm_middle.symm;exact hp.nodup_iff.2 hd
   ·rw [if_neg au];refine cp _ h ?_;exact hd.sublist (List.Sublist.append_left (List.sublist_cons_self q l) out)
 exact key l [] List.Pairwise.nil (by simpa using aF)
theorem H0 (lt : ao → ao → Bool) : ∀ a b, (eP lt a b).Perm (a ++ b) := by
 intro a b
 induction a, b using eP.induct lt with
 | case1 b => simp [eP]
 | case2 x a => simp [eP]
 | case3 x a y b h cp =>
  rw [eP, if_pos h];exact (cp.cons y).trans List.perm_middle.symm
 | case4 x a y b h cp =>
  rw [eP, if_neg h];exact cp.cons x
theorem aaG {fx fy : Bool} : ∀ a b, jJ fx fy a → jJ fx fy b → (a ++ b).Nodup → jJ fx fy (eP (dA fx fy) a b) := by
 intro a b
 induction a, b using eP.induct (dA fx fy) with
 | case1 b => intro _ h _; simpa [eP] using h
 | case2 x a => intro h _ _; simpa [eP] using h
 | case3 x a y b h cp =>
  intro aK ab hd;rw [eP, if_pos h];have Ct := iN.1 ab;have ek := iN.1 aK;have rS : (x :: a ++ b).Nodup := hd.sublist (List.Sublist.append_left (List.sublist_cons_self y b) (x :: a));refine iN.2 ⟨fun r aq => ?_, cp aK Ct.2 rS⟩;rcases kt.1 ((H0 _ _ _).mem_iff.1 aq) with aq | aq
  ·rcases gI.1 aq with rfl | aq
   ·exact h
   ·exact x3 h (ek.1 r aq)
  ·exact Ct.1 r aq
 | case4 x a y b h cp =>
  intro aK ab hd;rw [eP, if_neg h];have Ct := iN.1 ab;have ek := iN.1 aK;have kP : x ≠ y := fun e => (List.nodup_append.1 hd).2.2 x (kr ..) y (kr ..) e;have bi : dA fx fy x y = true := (Fe kP).resolve_right h;have rS : (a ++ y :: b).Nodup := (List.nodup_cons.1 hd).2;refine iN.2 ⟨fun r aq => ?_, cp ek.2 ab rS⟩;rcases kt.1 ((H0 _ _ _).mem_iff.1 aq) with aq | aq
  ·exact ek.1 r aq
  ·rcases gI.1 aq with rfl | aq
   ·exact bi
   ·exact x3 bi (Ct.1 r aq)
theorem Aq (lt : ao → ao → Bool) : ∀ (N : Nat) (l : List ao), l.length ≤ N → (il lt l).Perm l
 | N, l, h => by
  by_cases q : l.length < 2
  ·rw [il, dif_pos q]
  ·match N with
   | 0 => omega
   | N + 1 =>
    rw [il, dif_neg q];refine (H0 lt _ _).trans ?_;refine ((Aq lt N _ (by simp; omega)).append (Aq lt N _ (by simp; omega))).trans ?_;rw [ks]
theorem IV {fx fy : Bool} : ∀ (N : Nat) (l : List ao), l.length ≤ N → l.Nodup → jJ fx fy (il (dA fx fy) l)
 | N, l, h, hd => by
  by_cases q : l.length < 2
  ·rw [il, dif_pos q]
   match l, q with
   | [], _ => exact .nil
   | [x], _ => unfold jJ; simp
   | x :: y :: l, q => exact absurd q (by simp)
  ·match N with
   | 0 => omega
   | N + 1 =>
    rw [il, dif_neg q];refine aaG _ _ (IV N _ (by simp; omega) (hd.sublist (List.take_sublist _ _))) (IV N _ (by simp; omega) (hd.sublist (List.drop_sublist _ _))) ?_;have hp := (Aq (dA fx fy) N (l.take (l.length / 2)) (by simp; omega)).append (Aq (dA fx fy) N (l.drop (l.length / 2)) (by simp; omega));rw [ks] at hp;exact hp.nodup_iff.2 hd
theorem aeR {fx fy : Bool} {f : ao → Bool} {l m : List ao} (aF : l.Nodup) (hp : m.Perm (l.filter f)) : il (dA fx fy) m = qX fx fy f l :=
 Kh (IV _ m (dL _) (hp.nodup_iff.2 (aF.sublist List.filter_sublist))) (aeJ fx fy f aF) ((Aq _ _ m (dL _)).trans (hp.trans (El fx fy f l).symm))
end Go.Proofs.YtpochbhajmbfdaaGreat
namespace Go.Proofs.YtpochbhajmbfdaaGreat
open Go.RowKit
def At (P : Program) (qk : TypeId) (agg : Bool) (n : Nat) : Bool := match j7 P qk with
 | some (b, m) => Bool.beq b agg && Nat.beq m n
 | none => false
where Bool.beq : Bool → Bool → Bool
 | true, true => true
 | false, false => true
 | _, _ => false
def F3 (P : Program) (ty i off : Nat) (agg : Bool) (n : Nat) : Bool := match P.underlying ty with
 | some (.struct bl) => match bl[i]? with
  | some f => Nat.beq f.offset off && At P f.type agg n
  | none => false
 | _ => false
def Hs (P : Program) (ty len : Nat) (agg : Bool) (n : Nat) : Bool := match P.underlying ty with
 | some (.array l e) => Nat.beq l len && At P e agg n && (match P.info? e with | some t => Nat.beq t.size n | none => false)
 | _ => false
class Jm (P : Program) (ty i : Nat) (off : outParam Nat) (agg : outParam Bool) (n : outParam Nat) : Prop where
 h : F3 P ty i off agg n = true
class Jp (P : Program) (ty : Nat) (len : outParam Nat) (agg : outParam Bool) (n : outParam Nat) : Prop where
 h : Hs P ty len agg n = true
section
variable {P : Program}
theorem QN {qk n : Nat} {agg : Bool} (h : At P qk agg n = true) : j7 P qk = some (agg, n) := by
 unfold At at h
 split at h
 ·rename_i b m ab;rw [dQ] at h;have e := gS h.2;have aN : b = agg := by cases b <;> cases agg <;> simp [At.Bool.beq] at h ⊢
  rw [ab, e, aN]
 ·cases h
theorem Qi {qk n off : Nat} {cs : List Value} {v : Value} {W : World} (h : j7 P qk = some (false, n)) (hv : cs[off]? = some v) : (part qk cs.toArray off).run P W = .ok v W := by
 unfold j7 at h;cases hu : P.underlying qk with
 | none => rw [hu] at h; cases h
 | some D =>
  have h1 : (isAgg qk).run P W = .ok false W := by
   unfold isAgg;simp only [Sem.run_bind, run_underlying hu, Result.andThen_ok];cases hi : P.info? qk with
   | none => rw [hu, hi] at h; cases D <;> first | rfl | (cases h)
   | some ez => rw [hu, hi] at h; cases D <;> first | rfl | (cases h)
  unfold part;simp only [Sem.run_bind, h1, Result.andThen_ok, nG, if_false, List.getElem?_toArray, hv, Sem.run_pure]
variable {s : aD} {ops : Array Oper} {K : aD → Prop} {rest : List Oper} {ty : Nat} {pos : String} {after : Array Edge} {guard : Option (Nat × Bool)} {d : Nat}
theorem V1 {c0 i off n : Nat} {agg : Bool} (h : F3 P c0 i off agg n = true) : ∃ bl f, P.underlying c0 = some (.struct bl) ∧ bl[i]? = some f ∧ f.offset = off ∧ j7 P f.type = some (agg, n) := by
 unfold F3 at h
 split at h
 ·rename_i bl hu
  split at h
  ·rename_i f au;rw [dQ] at h;exact ⟨bl, f, hu, au, gS h.1, QN h.2⟩
  ·cases h
 ·cases h
theorem Y7 {c0 len n : Nat} {agg : Bool} (h : Hs P c0 len agg n = true) : ∃ e t, P.underlying c0 = some (.array len e) ∧ P.info? e = some t ∧ t.size = n ∧ j7 P e = some (agg, n) := by
 unfold Hs at h
 split at h
 ·rename_i l e hu;simp only [dQ] at h;obtain ⟨⟨h1, h2⟩, ap⟩ := h
  split at ap
  ·rename_i t aE;exact ⟨e, t, by rw [hu, gS h1], aE, gS ap, QN h2⟩
  ·cases ap
 ·cases h
theorem S9 {x : Operand} {c0 i off n : Nat} {xs : List AC} {y : AC} [F : Jm P c0 i off false n] (hw : want ops ⟨some d, .field c0 x i, ty, pos, after, guard⟩ s = some true) (aa : s.look x = some (.w (.agg xs))) (ak : xs[off]? = some y) (hd : Nat.blt d s.n = true) (h : bj P ops K rest (s.put (some d) (.w (.one y)))) : bj P ops K (⟨some d, .field c0 x i, ty, pos, after, guard⟩ :: rest) s := by
 refine fO hw ⟨fun _ _ h => (by cases h), fun z a6 => ?_, fun U ad W env he => ?_, fun j ae => ⟨x, by simp [Op.operands], _, aa, ?_⟩⟩ hd h
 ·simp [Op.operands] at a6;subst a6;exact ⟨_, aa⟩
 ·obtain ⟨vs, aI, an⟩ := he x (by simp [Op.operands]) _ aa;obtain ⟨bl, f, hu, au, ax, dY⟩ := V1 F.h;have bi : off < vs.length := by rw [← an.1]; exact (bS.1 ak).1
  refine ⟨vs[off], ?_, an.2 off y _ ak (cm bi)⟩;simp only [execOp, Instr.field, aI, Sem.run_bind, run_underlying hu, Result.andThen_ok, au, asAgg, Sem.run_pure, ax, Qi dY (cm bi)]
 ·obtain ⟨z, a6, zn⟩ := ae;simp [bG.cells] at a6;subst a6;exact ⟨z, dF ak, zn⟩
theorem Tg {x y : Operand} {c0 len n : Nat} {gC : IntKind} {i : Int} {xs : List AC} {z : AC} [A : Jp P c0 len false n] (hw : want ops ⟨some d, .index c0 x y, ty, pos, after, guard⟩ s = some true) (aa : s.look x = some (.w (.agg xs))) (ag : s.look y = some (aQ (.int gC i))) (aG : 0 ≤ i) (h1 : i < len) (ak : xs[i.toNat * n]? = some z) (hd : Nat.blt d s.n = true) (h : bj P ops K rest (s.put (some d) (.w (.one z)))) : bj P ops K (⟨some d, .index c0 x y, ty, pos, after, guard⟩ :: rest) s := by
 refine fO hw ⟨fun _ _ h => (by cases h), fun z a6 => ?_, fun U ad W env he => ?_, fun j ae => ⟨x, by simp [Op.operands], _, aa, ?_⟩⟩ hd h
 ·simp [Op.operands] at a6;rcases a6 with rfl | rfl
  ·exact ⟨_, aa⟩
  ·exact ⟨_, ag⟩
 ·obtain ⟨vs, aI, an⟩ := he x (by simp [Op.operands]) _ aa;have hi : env y = .int gC i := (he y (by simp [Op.operands]) _ ag).1;obtain ⟨e, t, hu, aE, hs, dY⟩ := Y7 A.h;have bi : i.toNat * n < vs.length := by rw [← an.1]; exact (bS.1 ak).1
  refine ⟨vs[i.toNat * n], ?_, an.2 _ z _ ak (cm bi)⟩;simp only [execOp, Instr.index, aI, hi, asIntOf, Sem.run_bind, Sem.run_pure, Result.andThen_ok, run_underlying hu, if_pos (And.intro aG h1), hj aE, hs, Qi dY (cm bi)]
 ·obtain ⟨u, hu, YA⟩ := ae;simp [bG.cells] at hu;subst hu;exact ⟨u, dF ak, YA⟩
theorem S5 {c0 dI : Nat} {x y : Operand} {a b : Bool} (hw : want ops ⟨some d, .binOp .eql c0 x y dI, ty, pos, after, guard⟩ s = some true) (aa : s.look x = some (bF a)) (ag : s.look y = some (bF b)) (hd : Nat.blt d s.n = true) (hu : P.underlying c0 = some .bool) (h : bj P ops K rest (s.put (some d) (bF (a == b)))) : bj P ops K (⟨some d, .binOp .eql c0 x y dI, ty, pos, after, guard⟩ :: rest) s :=
 rv hw aa ag rfl rfl (fun W => rfl) (fun W => run_eql_bool W c0 a b hu) rfl hd h
end
theorem Pt {P : Program} {f : FuncId} {args ry : List ai} {r : ai} (h : aX P f args r) (jn : ry.all ai.bc = true) (an : ry.length = args.length) (hle : ∀ (i : Nat) x y, ry[i]? = some x → args[i]? = some y → x.bo y) : aX P f ry r :=
 ⟨fun x aa => ai.dw (cu.1 jn x aa), h.cf, fun U W vs dH => h.call U W vs ⟨by rw [← an]; exact dH.1, fun i y v ag hv => by
  have hi : i < ry.length := by rw [an]; exact (bS.1 ag).1
  exact hle i _ y (cm hi) ag U id W v (dH.2 i _ v (cm hi) hv)⟩⟩
abbrev I4 : ai := aQ (.slice none 0 0)
theorem nil_le (z : Nat) : I4.bo (cI z 0 []) := fun U ad W v h => by
 obtain ⟨rfl, _⟩ := h;exact ⟨⟨none, 0, rfl, dL _, by simp, fun h => absurd h (Nat.lt_irrefl _)⟩, fun b ⟨c, a, q, aF, _⟩ => absurd aF (Nat.lt_irrefl _)⟩
end Go.Proofs.YtpochbhajmbfdaaGreat
