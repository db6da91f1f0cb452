/-
  My own texts, without what this claim does not need. My own text.
-/
import Derived.Laws.Slices
import Derived.Test.YtpochbhajmbfdaaGreatSTurnedK4
set_option maxRecDepth 100000
set_option maxHeartbeats 64000000
set_option linter.unusedVariables false
set_option linter.unusedSimpArgs false
set_option linter.unusedSectionVars false
namespace Go.Proofs.YtpochbhajmbfdaaGreat
open Go.RowKit
abbrev Mem := Nat → Option (List AC)
def cm : Mem := fun _ => none
def ew (ad : Nat → Nat) (m : Mem) (R : aL) (b : Nat) : Prop := (∃ k cs, m k = some cs ∧ ad k = b) ∨ ∃ i r, R i = some r ∧ r.own b
structure fe (U : Nat → Prop) (ad : Nat → Nat) (W : World) (m : Mem) (R : aL) : Prop where
  dG : ∀ k cs, m k = some cs → ∃ (vs : List Value) (ty : TypeId), W.heap[ad k]? = some (.cells vs.toArray ty (0, 0)) ∧ b3 U ad W cs vs ∧ ¬ U (ad k)
  gb : ∀ k cs x j, m k = some cs → x ∈ cs → x.owns j → ∃ au, m j = some au
  inj : ∀ k k' cs au, m k = some cs → m k' = some au → ad k = ad k' → k = k'
  rows : ∀ i r, R i = some r → r.ok U ad W ∧ (∀ y ∈ r.aZ, y.bd = true) ∧ ∀ g, r.own g → ¬ U g ∧ ∀ k cs, m k = some cs → ad k ≠ g
  apart : ∀ i j r q, R i = some r → R j = some q → i ≠ j → ∀ g, r.own g → ¬ q.own g
def Is (ad : Nat → Nat) (W : World) (m : Mem) (R : aL) : e8 := ⟨W, fun b => b < W.heap.size ∧ ¬ ew ad m R b, fun _ h => h.1, fun _ => none, []⟩
def b9 {α : Type} (f g : Nat → Option α) : Nat → Option α := fun j => match f j with
  | some x => some x
  | none => g j
theorem kd {α : Type} {f g : Nat → Option α} {j : Nat} {x : α} (h : b9 f g j = some x) : f j = some x ∨ (f j = none ∧ g j = some x) := by
  unfold b9 at h;cases aw : f j with
  | some y => rw [aw] at h; exact .inl h
  | none => rw [aw] at h; exact .inr ⟨rfl, h⟩
theorem h4 {α : Type} {f g : Nat → Option α} {j : Nat} {x : α} (h : f j = some x) : b9 f g j = some x := by unfold b9; rw [h]
theorem hN {α : Type} {f g : Nat → Option α} {j : Nat} (h : f j = none) : b9 f g j = g j := by unfold b9; rw [h]
structure dk (P : Program) (f : FuncId) (args : List ai) (m0 : Mem) (R0 : aL) (Post : ai → Mem → aL → Prop) : Prop where
  call : ∀ (U : Nat → Prop) (ad : Nat → Nat) (W : World) (vs : List Value), fe U ad W m0 R0 → (∀ x ∈ args, ∀ j, x.owns j → ∃ cs, m0 j = some cs) → ks U ad W args vs →
    Calls P f vs.toArray W fun e bn => ∃ v r aK aC bg cK, e = .returned v ∧ Post r aK aC ∧ fe cK bg bn aK aC ∧ dn cK bg bn r v ∧ (∀ j, r.owns j → ∃ cs, aK j = some cs) ∧
      (∀ k cs, m0 k = some cs → bg k = ad k ∧ ∃ au, aK k = some au) ∧ (∀ i r, R0 i = some r → ∃ ba, aC i = some ba) ∧
      (∀ b, cK b → U b ∨ W.heap.size ≤ b ∨ ew ad m0 R0 b) ∧ (∀ b, ew bg aK aC b → ew ad m0 R0 b ∨ W.heap.size ≤ b) ∧ km (Is ad W m0 R0) bn
section
variable {P : Program} {B bq : e8} {A b0 : Nat → Prop} {s : aE} {ad : Nat → Nat} {a : Act} {w : World} {o : Oper} {R : aL} {Q : Exit → Act → World → Prop}
theorem pK.VV {U : Nat → Prop} {v : Value} {fn : Fn} {cs : List AC} (h : gV U ad w (.p (pK fn cs)) v) : ∃ vs : List Value, v = .func fn #[] vs.toArray ∧ ∀ bg, b3 U bg w cs vs := by
  obtain ⟨⟨vs, rfl, ap, ak⟩, aw⟩ := h;refine ⟨vs, rfl, fun bg => ⟨ap.1, fun i x u aa hu => ?_⟩⟩;have h := ap.2 i x u aa hu;cases x with
  | c y => exact h
  | own k o => exact absurd rfl (ak _ (dL aa) k)
  | p R => exact ⟨h.1, fun b ab => aw b ⟨vs, rfl, i, _, u, aa, hu, ab⟩⟩
theorem tG.run {f : FuncId} {args : List ai} (ak : tG P s.look o f args) (ay : Rel B A s ad a w) : ∃ us : List Value, ks (s.free A ad) ad w args us ∧ (execOp a.eval o).run P w = .ok (.enter f us.toArray) w := by
  obtain ⟨⟨c, g, aB, zX, aW⟩, zZ⟩ := ak;rcases aW with ⟨bs, ax, oY, xY⟩ | ⟨cs, ax, oY⟩
  · have kU : a.eval g = .func (.func f) bs.toArray #[] := (ay.look ax).1
    refine ⟨bs ++ c.args.toList.map a.eval, ?_, ?_⟩
    · refine ⟨by have := congrArg List.length oY; simpa using this.symm, fun i x v aa hv => ?_⟩
      have h1 : (bs.map (fun b => some (yp b)) ++ c.args.toList.map s.look)[i]? = some (some x) := by rw [oY, eG, aa]; rfl
      rcases jt i bs.length with bh | ix
      · rw [gG (by simpa using bh), eG] at h1
        rw [gG bh] at hv;rw [hv] at h1;simp only [hy, gE] at h1;subst h1;exact RP (cB.1 xY v (dL hv))
      · rw [gf (by simpa using ix), eG] at h1
        rw [gf ix, eG] at hv;simp only [jK] at h1;cases ag : c.args.toList[i - bs.length]? with
        | none => rw [ag] at hv; cases hv
        | some y =>
          rw [ag] at h1 hv;simp only [hy, gE] at h1 hv;subst hv;exact ay.look h1
    · have e : bs.toArray ++ c.args.map a.eval ++ #[] = (bs ++ c.args.toList.map a.eval).toArray := by
        rw [Array.append_empty];apply Array.ext';simp
      simp only [execOp, aB, resolve, zX, Deferred.ofValue, kU];simp only [Sem.run_bind, Sem.run_pure, Result.andThen_ok, invoke];rw [e];exact Df zZ
  · obtain ⟨vs, kU, cW⟩ := pK.VV (ad := ad) (ay.look ax)
    refine ⟨c.args.toList.map a.eval ++ vs, ?_, ?_⟩
    · refine ⟨by have := congrArg List.length oY; have h2 := (cW ad).1; simp at this ⊢; omega, fun i x v aa hv => ?_⟩
      have h1 : (c.args.toList.map s.look ++ cs.map (fun x => some (.w (.one x))))[i]? = some (some x) := by rw [oY, eG, aa]; rfl
      rcases jt i c.args.toList.length with bh | ix
      · rw [gG (by simpa using bh), eG] at h1
        rw [gG (by simpa using bh), eG] at hv;cases ag : c.args.toList[i]? with
        | none => rw [ag] at hv; cases hv
        | some y =>
          rw [ag] at h1 hv;simp only [hy, gE] at h1 hv;subst hv;exact ay.look h1
      · rw [gf (by simpa using ix), eG] at h1
        rw [gf (by simpa using ix)] at hv;simp only [jK] at h1 hv;cases ag : cs[i - c.args.toList.length]? with
        | none => rw [ag] at h1; cases h1
        | some y =>
          rw [ag] at h1;simp only [hy, gE] at h1;subst h1;exact (cW ad).2 _ y v ag hv
    · have e : (#[] : Array Value) ++ c.args.map a.eval ++ vs.toArray = (c.args.toList.map a.eval ++ vs).toArray := by
        apply Array.ext';simp
      simp only [execOp, aB, resolve, zX, Deferred.ofValue, kU];simp only [Sem.run_bind, Sem.run_pure, Result.andThen_ok, invoke];rw [e];exact Df zZ
theorem eJ.part (ay : eJ bq b0 R s a w A ad) {m0 : Mem} {R0 : aL} (hm : ∀ k cs, m0 k = some cs → s.mem k = some cs) (al : bL R0 R) (gb : ∀ k cs x j, m0 k = some cs → x ∈ cs → x.owns j → ∃ au, m0 j = some au) : fe (s.free A ad) ad w m0 R0 := by
  refine ⟨fun k cs ae => ?_, gb, fun k k' cs au ae en e => ay.rel.inj k k' cs au (hm k cs ae) (hm k' au en) e, fun i r hi => ?_, fun i j r q hi af => ay.apart i j r q (al i r hi) (al j q af)⟩
  · obtain ⟨vs, ty, h1, h2, _⟩ := ay.rel.dG k cs (hm k cs ae)
    exact ⟨vs, ty, h1, h2, fun h => h.2 k cs (hm k cs ae) rfl⟩
  · obtain ⟨h1, h2, ao⟩ := ay.rows i r (al i r hi)
    exact ⟨h1, h2, fun g ax => ⟨fun h => (ao g ax).1 h.1, fun k cs ae => (ao g ax).2 k cs (hm k cs ae)⟩⟩
theorem eJ.ZO (ay : eJ bq b0 R s a w A ad) {m0 : Mem} {R0 : aL} (hm : ∀ k cs, m0 k = some cs → s.mem k = some cs) (al : bL R0 R) {b : Nat} (h : ew ad m0 R0 b) : b < w.heap.size := by
  rcases h with ⟨k, cs, ae, rfl⟩ | ⟨i, r, hi, ax⟩
  · exact ay.rel.lt (hm k cs ae)
  · exact (ay.rows i r (al i r hi)).ok.lt ax
def aE.over (s : aE) (aK : Mem) : aE := { s with mem := b9 aK s.mem }
theorem eJ.called (ay : eJ bq b0 R s a w A ad) (ok : s.cU) {m0 aK : Mem} {R0 aC : aL} {bg : Nat → Nat} {cK : Nat → Prop} {w' : World} (hm : ∀ k cs, m0 k = some cs → s.mem k = some cs) (al : bL R0 R)
    (cA : fe cK bg w' aK aC) (bC : ∀ k cs, m0 k = some cs → bg k = ad k ∧ ∃ au, aK k = some au) (cd : ∀ i r, R0 i = some r → ∃ ba, aC i = some ba) (f1 : ∀ k au, aK k = some au → (∃ cs, m0 k = some cs) ∨ s.mem k = none) (fn : ∀ k au, aK k = some au → s.mem k = none → k < s.n)
    (cH : ∀ b, cK b → s.free A ad b ∨ w.heap.size ≤ b ∨ ew ad m0 R0 b) (cC : ∀ b, ew bg aK aC b → ew ad m0 R0 b ∨ w.heap.size ≤ b) (ab : km (Is ad w m0 R0) w') :
    eJ bq b0 (b9 aC R) (s.over aK) a w' (fun b => (s.free A ad b ∧ b < w.heap.size) ∨ cK b ∨ w'.heap.size ≤ b) (fun k => match aK k with | some _ => bg k | none => ad k) ∧
      (∀ b, cK b → (s.over aK).free (fun b => (s.free A ad b ∧ b < w.heap.size) ∨ cK b ∨ w'.heap.size ≤ b) (fun k => match aK k with | some _ => bg k | none => ad k) b) ∧ (s.over aK).cU := by
  have bh : ∀ b, ew ad m0 R0 b → b < w.heap.size := fun b h => ay.ZO hm al h
  have jH : ∀ k, (∃ cs, s.mem k = some cs) → (match aK k with | some _ => bg k | none => ad k) = ad k := by
    rintro k ⟨cs, ae⟩;cases gv : aK k with
    | none => rfl
    | some au =>
      rcases f1 k au gv with ⟨vI, aJ⟩ | aJ
      · exact (bC k vI aJ).1
      · rw [aJ] at ae; cases ae
  have aat : ∀ k au, aK k = some au → (match aK k with | some _ => bg k | none => ad k) = bg k := fun k au h => by rw [h]
  have sN : ∀ b, s.free A ad b → ¬ ew ad m0 R0 b := by
    rintro b aw (⟨k, cs, ae, rfl⟩ | ⟨i, r, hi, ax⟩)
    · exact aw.2 k cs (hm k cs ae) rfl
    · exact ((ay.rows i r (al i r hi)).own b ax).1 aw.1
  have v7 : ∀ b, b < w.heap.size → ¬ ew ad m0 R0 b → w'.heap[b]? = w.heap[b]? := fun b h1 h2 => ab.block b ⟨h1, h2⟩;have b4 : w.heap.size ≤ w'.heap.size := ab.size
  have DY : ∀ b, ew bg aK aC b → b < w'.heap.size := by
    rintro b (⟨k, cs, ae, rfl⟩ | ⟨i, r, hi, ax⟩)
    · obtain ⟨vs, ty, h1, _⟩ := cA.dG k cs ae
      exact (k4.1 h1).1
    · exact (cA.rows i r hi).1.lt ax
 
  have AZ : ∀ k cs, aK k = none → s.mem k = some cs → ¬ ew ad m0 R0 (ad k) := by
    rintro k cs aD ae (⟨j, vI, af, e⟩ | ⟨i, r, hi, ax⟩)
    · have bu : j = k := ay.rel.inj j k _ _ (hm j vI af) ae e
      subst bu;obtain ⟨_, au, h⟩ := bC j vI af;rw [aD] at h; cases h
    · exact ((ay.rows i r (al i r hi)).own _ ax).2 k cs ae rfl
  have Bq : ∀ i r, aC i = none → R i = some r → ∀ g, r.own g → ¬ ew ad m0 R0 g := by
    rintro i r aD hi g ax (⟨j, vI, af, e⟩ | ⟨fS, ba, c3, eM⟩)
    · exact ((ay.rows i r hi).own _ ax).2 j vI (hm j vI af) e
    · by_cases e : i = fS
      · subst e
        obtain ⟨q, h⟩ := cd i ba c3;rw [aD] at h; cases h
      · exact ay.apart i fS r ba hi (al fS ba c3) e g ax eM
  have yB : ∀ i r, R i = some r → ∀ g, r.own g → g < w.heap.size := fun i r hi g ax => (ay.rows i r hi).ok.lt ax
  have HQ : ∀ b, cK b → ¬ ew bg aK aC b := by
    rintro b hu (⟨k, cs, ae, rfl⟩ | ⟨i, r, hi, ax⟩)
    · obtain ⟨_, _, _, _, h⟩ := cA.dG k cs ae; exact h hu
    · exact ((cA.rows i r hi).2.2 b ax).1 hu
  have Hr : ∀ b, s.free A ad b → b < w.heap.size → (s.over aK).free (fun b => (s.free A ad b ∧ b < w.heap.size) ∨ cK b ∨ w'.heap.size ≤ b) (fun k => match aK k with | some _ => bg k | none => ad k) b := by
    intro b aw ap;refine ⟨.inl ⟨aw, ap⟩, fun k cs ae => ?_⟩;rcases kd (show b9 aK s.mem k = some cs from ae) with h | ⟨h, ar⟩
    · simp only [h]
      intro e;rcases cC b (.inl ⟨k, cs, h, e⟩) with q | q
      · exact sN b aw q
      · omega
    · simp only [h]; exact aw.2 k cs ar
  have Hs : ∀ b, cK b → (s.over aK).free (fun b => (s.free A ad b ∧ b < w.heap.size) ∨ cK b ∨ w'.heap.size ≤ b) (fun k => match aK k with | some _ => bg k | none => ad k) b := by
    intro b hu;refine ⟨.inr (.inl hu), fun k cs ae => ?_⟩;rcases kd (show b9 aK s.mem k = some cs from ae) with h | ⟨h, ar⟩
    · simp only [h]
      intro e;exact HQ b hu (.inl ⟨k, cs, h, e⟩)
    · simp only [h]
      intro e;subst e;rcases cH _ hu with q | q | q
      · exact q.2 k cs ar rfl
      · have := ay.rel.lt ar; omega
      · exact AZ k cs h ar q
  have dK : (s.over aK).cU := by
    have AL : ∀ j, (∃ cs, s.mem j = some cs) → ∃ cs, (s.over aK).mem j = some cs := by
      rintro j ⟨cs, h⟩;show ∃ cs, b9 aK s.mem j = some cs;cases gv : aK j with
      | some c => exact ⟨c, h4 gv⟩
      | none => exact ⟨cs, by rw [hN gv]; exact h⟩
    refine ⟨fun t av j aF af => AL j (ok.hA t av j aF af), fun k cs x j ae aa af => ?_⟩;rcases kd (show b9 aK s.mem k = some cs from ae) with h | ⟨h, ar⟩
    · obtain ⟨c, ak⟩ := cA.gb k cs x j h aa af
      exact ⟨c, h4 ak⟩
    · exact AL j (ok.dG k cs x j ar aa af)
  have acp : ∀ k cs, m0 k = some cs → ew bg aK aC (ad k) := fun k cs ae => by
    obtain ⟨e, au, h⟩ := bC k cs ae;exact .inl ⟨k, au, h, e⟩
  have Oa : ∀ b, ew ad m0 R0 b → ¬ bq.F b := by
    rintro b (⟨k, cs, ae, rfl⟩ | ⟨i, r, hi, ax⟩)
    · exact ay.pg k cs (hm k cs ae)
    · exact (ay.hot i r b (al i r hi) ax).1
  have Qb : ∀ b, w.heap.size ≤ b → ¬ bq.F b := fun b h aw => by have := bq.lt b aw; have := ay.below.size; omega
  refine ⟨⟨ay.up, ?_, ?_, fun k cs ae aw => ?_, ⟨ab.os.trans ay.below.os, ab.tape.trans ay.below.tape, ab.output.trans ay.below.output, lC ay.below.size ab.size, fun b aw => ?_⟩, fun i r hi => ?_, fun i j r q hi af fI g ax => ?_, fun i r g hi ax => ?_, fun k b ae => ?_⟩, Hs, dK⟩
  · rintro b (h | h | h)
    · exact ay.sub b h.1.1
    · rcases cH b h with q | q | ⟨k, cs, ae, rfl⟩ | ⟨i, r, hi, ax⟩
      · exact ay.sub b q.1
      · exact ay.up b (lC ay.below.size q)
      · exact absurd (acp k cs ae) (HQ _ h)
      · exact (ay.hot i r b (al i r hi) ax).2
    · exact ay.up b (by have := ay.below.size; omega)
  · refine ⟨ay.rel.qx, ay.rel.size, fun t av aF => ?_, fun k cs ae => ?_, fun k k' cs au ae en e => ?_, km.refl _, fun b h => .inr (.inr h), xS _ _ _⟩
    · obtain ⟨v, h1, h2⟩ := ay.rel.hA t av aF
      exact ⟨v, h1, h2.map (fun b aw ap => ⟨Hr b aw ap, v7 b ap (sN b aw)⟩) fun j af => jH j (ok.hA t av j aF af)⟩
    · rcases kd (show b9 aK s.mem k = some cs from ae) with h | ⟨h, ar⟩
      · obtain ⟨vs, ty, h1, h2, _⟩ := cA.dG k cs h
        refine ⟨vs, ty, by simp only [h]; exact h1, h2.map (fun b hu _ => ⟨Hs b hu, rfl⟩) fun j x aa af => ?_, fun aw => aw.2 k cs ae rfl⟩;obtain ⟨c, ak⟩ := cA.gb k cs x j h aa af;exact aat j c ak
      · obtain ⟨vs, ty, h1, h2, _⟩ := ay.rel.dG k cs ar
        refine ⟨vs, ty, by simp only [h]; rw [v7 _ (ay.rel.lt ar) (AZ k cs h ar)]; exact h1, h2.map (fun b aw ap => ⟨Hr b aw ap, v7 b ap (sN b aw)⟩) fun j x aa af => jH j (ok.dG k cs x j ar aa af), fun aw => aw.2 k cs ae rfl⟩
    · rcases kd (show b9 aK s.mem k = some cs from ae) with h | ⟨h, ar⟩
      · rcases kd (show b9 aK s.mem k' = some au from en) with g | ⟨g, jD⟩
        · simp only [h, g] at e
          exact cA.inj k k' cs au h g e
        · simp only [h, g] at e
          rcases cC _ (.inl ⟨k, cs, h, e⟩) with q | q
          · exact absurd q (AZ k' au g jD)
          · have := ay.rel.lt jD; omega
      · rcases kd (show b9 aK s.mem k' = some au from en) with g | ⟨g, jD⟩
        · simp only [h, g] at e
          rcases cC _ (.inl ⟨k', au, g, e.symm⟩) with q | q
          · exact absurd q (AZ k cs h ar)
          · have := ay.rel.lt ar; omega
        · simp only [h, g] at e
          exact ay.rel.inj k k' cs au ar jD e
  · rcases kd (show b9 aK s.mem k = some cs from ae) with h | ⟨h, ar⟩
    · simp only [h] at aw
      rcases cC _ (.inl ⟨k, cs, h, rfl⟩) with q | q
      · exact Oa _ q aw
      · exact Qb _ q aw
    · simp only [h] at aw
      exact ay.pg k cs ar aw
  · exact (v7 b (u2 (bq.lt b aw) ay.below.size) fun h => Oa b h aw).trans (ay.below.block b aw)
  · rcases kd hi with h | ⟨h, ar⟩
    · obtain ⟨lU, ak, ax⟩ := cA.rows i r h
      refine ⟨lU.kept ak (fun _ _ => rfl) (eb _) (fun b hu _ => ⟨Hs b hu, rfl⟩), ak, fun g q => ?_⟩;have aW : ew bg aK aC g := .inr ⟨i, r, h, q⟩;refine ⟨?_, fun k cs ae => ?_⟩
      · rintro (z | z | z)
        · rcases cC g aW with y | y
          · exact sN g z.1 y
          · omega
        · exact HQ g z aW
        · have := DY g aW; omega
      · rcases kd (show b9 aK s.mem k = some cs from ae) with y | ⟨y, y'⟩
        · simp only [y]; exact (ax g q).2 k cs y
        · simp only [y]
          intro e;subst e;rcases cC _ aW with z | z
          · exact AZ k cs y y' z
          · have := ay.rel.lt y'; omega
    · obtain ⟨lU, ak, ax⟩ := ay.rows i r ar
      refine ⟨lU.kept ak (fun g q => v7 g (yB i r ar g q) (Bq i r h ar g q)) b4 (fun b aw cV => ⟨Hr b aw cV, v7 b cV (sN b aw)⟩), ak, fun g q => ⟨?_, fun k cs ae => ?_⟩⟩
      · rintro (z | z | z)
        · exact (ax g q).1 z.1.1
        · rcases cH g z with y | y | y
          · exact (ax g q).1 y.1
          · have := yB i r ar g q; omega
          · exact Bq i r h ar g q y
        · have := yB i r ar g q; omega
      · rcases kd (show b9 aK s.mem k = some cs from ae) with y | ⟨y, y'⟩
        · simp only [y]
          intro e;rcases cC g (.inl ⟨k, cs, y, e⟩) with z | z
          · exact Bq i r h ar g q z
          · have := yB i r ar g q; omega
        · simp only [y]; exact (ax g q).2 k cs y'
  · rcases kd hi with h | ⟨h, ar⟩
    · rcases kd af with y | ⟨y, y'⟩
      · exact cA.apart i j r q h y fI g ax
      · intro an
        rcases cC g (.inr ⟨i, r, h, ax⟩) with z | z
        · exact Bq j q y y' g an z
        · have := yB j q y' g an; omega
    · rcases kd af with y | ⟨y, y'⟩
      · intro an
        rcases cC g (.inr ⟨j, q, y, an⟩) with z | z
        · exact Bq i r h ar g ax z
        · have := yB i r ar g ax; omega
      · exact ay.apart i j r q ar y' fI g ax
  · rcases kd hi with h | ⟨h, ar⟩
    · rcases cC g (.inr ⟨i, r, h, ax⟩) with (⟨k, cs, ae, e⟩ | ⟨j, q, af, an⟩) | z
      · obtain ⟨bu, au, aJ⟩ := bC k cs ae
        exact absurd (bu.trans e) (((cA.rows i r h).2.2 g ax).2 k au aJ)
      · exact ay.hot j q g (al j q af) an
      · exact ⟨Qb g z, ay.up g (by have := ay.below.size; omega)⟩
    · exact ay.hot i r g ar ax
  · obtain ⟨h1, h2⟩ := ay.ku k b ae
    refine ⟨h1, ?_⟩;cases gv : aK k with
    | none => exact h2
    | some c =>
      rcases f1 k c gv with ⟨cs, aJ⟩ | aJ
      · exact (bC k cs aJ).1.trans h2
      · exact absurd (fn k c gv aJ) (Nat.not_lt.2 h1)
structure vh (P : Program) (T : Nat → Bool) (R : aL) (s : aE) (o : Oper) (K : aL → aE → Prop) : Prop where
  ex : ∃ f args m0 R0 Post, tG P s.look o f args ∧ dk P f args m0 R0 Post ∧ (∀ x ∈ args, ∀ j, x.owns j → ∃ cs, m0 j = some cs) ∧ (∀ k cs, m0 k = some cs → s.mem k = some cs ∧ (T k = true ∨ ∀ r aK aC, Post r aK aC → aK k = some cs)) ∧ bL R0 R ∧ (∀ k cs x j, m0 k = some cs → x ∈ cs → x.owns j → ∃ au, m0 j = some au) ∧
    ∀ r aK aC, Post r aK aC → (∀ j, r.owns j → ∃ cs, aK j = some cs) → (∀ k cs x j, aK k = some cs → x ∈ cs → x.owns j → ∃ au, aK j = some au) → (∀ k cs, m0 k = some cs → ∃ au, aK k = some au) →
      (∀ k au, aK k = some au → (∃ cs, m0 k = some cs) ∨ (s.mem k = none ∧ k < s.n)) ∧ K (b9 aC R) ((s.over aK).put o.dst r)
theorem aE.cU.adw {aK : Mem} (ok : s.cU) (gb : ∀ k cs x j, aK k = some cs → x ∈ cs → x.owns j → ∃ au, aK j = some au) : (s.over aK).cU := by
  have AL : ∀ j, (∃ cs, s.mem j = some cs) → ∃ cs, (s.over aK).mem j = some cs := by
    rintro j ⟨cs, h⟩;show ∃ cs, b9 aK s.mem j = some cs;cases gv : aK j with
    | some c => exact ⟨c, h4 gv⟩
    | none => exact ⟨cs, by rw [hN gv]; exact h⟩
  refine ⟨fun t av j aF af => AL j (ok.hA t av j aF af), fun k cs x j ae aa af => ?_⟩;rcases kd (show b9 aK s.mem k = some cs from ae) with h | ⟨h, ar⟩
  · obtain ⟨c, ak⟩ := gb k cs x j h aa af
    exact ⟨c, h4 ak⟩
  · exact AL j (ok.dG k cs x j ar aa af)
theorem aE.cU.JF {aK : Mem} {r : ai} (ok : s.cU) (gb : ∀ k cs x j, aK k = some cs → x ∈ cs → x.owns j → ∃ au, aK j = some au) (jl : ∀ j, r.owns j → ∃ cs, aK j = some cs) (dst : Option Nat) : ((s.over aK).put dst r).cU :=
  (ok.adw gb).put fun j af => by
    obtain ⟨c, ak⟩ := jl j af;exact ⟨c, h4 ak⟩
theorem vh.mono {K je : aL → aE → Prop} (ok : s.cU) {T : Nat → Bool} (h : vh P T R s o K) (ek : ∀ R s, s.cU → K R s → je R s) : vh P T R s o je := by
  obtain ⟨f, args, m0, R0, Post, ak, hp, aB, hm, al, gb, ae⟩ := h.ex;refine ⟨f, args, m0, R0, Post, ak, hp, aB, hm, al, gb, fun r aK aC h1 h2 ao aH => ?_⟩;obtain ⟨f1, k⟩ := ae r aK aC h1 h2 ao aH;exact ⟨f1, ek _ _ (ok.JF ao h2 _) k⟩
theorem vh.sound {K : aL → aE → Prop} {T : Nat → Bool} (h : vh P T R s o K) (hd : ∀ d, o.dst = some d → d < s.n) (ay : eJ bq b0 R s a w A ad) (ok : s.cU) {je : Act → World → Prop} (ek : ∀ aC s' a' w', s'.cU → pR bq b0 aC s' a' w' → K aC s' → je a' w') : o.wp P a w je Q := by
  obtain ⟨f, args, m0, R0, Post, ak, hp, aB, gv, al, gb, ae⟩ := h.ex;have hm : ∀ k cs, m0 k = some cs → s.mem k = some cs := fun k cs h => (gv k cs h).1;obtain ⟨us, dX, hc⟩ := ak.run ay.rel;unfold Oper.wp;rw [hc];refine (hp.call (s.free A ad) ad w us (ay.part hm al gb) aB dX).mono ?_;rintro e w' ⟨v, r, aK, aC, bg, cK, rfl, j7, cA, hv, jl, bC, cd, cH, cC, ab⟩;obtain ⟨f1, en⟩ := ae r aK aC j7 jl cA.gb fun k cs h => (bC k cs h).2
  obtain ⟨cE, dJ, dz⟩ := ay.called ok hm al cA bC cd (fun k c h => (f1 k c h).imp id And.left) (fun k c h aJ => by
    rcases f1 k c h with ⟨cs, q⟩ | q
    · rw [hm k cs q] at aJ; cases aJ
    · exact q.2) cH cC ab
  have cg : dn ((s.over aK).free (fun b => (s.free A ad b ∧ b < w.heap.size) ∨ cK b ∨ w'.heap.size ≤ b) (fun k => match aK k with | some _ => bg k | none => ad k)) (fun k => match aK k with | some _ => bg k | none => ad k) w' r v :=
    hv.map (fun b hu _ => ⟨dJ b hu, rfl⟩) fun j af => by
      obtain ⟨c, ak⟩ := jl j af;simp only [ak]
  refine ek _ _ _ _ (dz.put fun j af => ?_) ⟨_, _, cE.put (fun d' e => hd d' e) cg⟩ en;obtain ⟨c, ak⟩ := jl j af;exact ⟨c, h4 ak⟩
end
def xq (o : Oper) : Bool := match o.op with
  | .call ⟨.builtin .append, _, _⟩ => true
  | .call ⟨.builtin .copy, _, _⟩ => true
  | _ => false
def wg (o : Oper) : Bool := match o.op with
  | .call ⟨.builtin .append, _, _⟩ => true
  | .call ⟨.builtin .copy, _, _⟩ => true
  | .buildSlice .. => true
  | .makeSlice .. => true
  | _ => false
def VS (o : Oper) : Bool := match o.op with
  | .call ⟨.value _, _, _⟩ => true
  | _ => false
def agL (o : Oper) : Bool := match o.op with
  | .store .. => true
  | _ => false
def dE (dr : Option (List Nat)) (o : Oper) : Bool := (VS o && match dr with
  | none => true
  | some hs => hs.contains (o.dst.getD 1000000)) || (agL o && match dr with
  | none => false
  | some hs => hs.contains 4000000)
def Sd (dr : Option (List Nat)) (o : Oper) : Bool := match dr with
  | none => true
  | some _ => dE dr o
def su (dr : Option (List Nat)) (o : Oper) : Bool := match dr with
  | none => false
  | some hs => hs.contains (3000000 + o.dst.getD 0)
def pD (dr : Option (List Nat)) (k : Nat) : Bool := match dr with
  | none => true
  | some hs => hs.contains (2000000 + k)
def ry (dr : Option (List Nat)) (look : Operand → Option ai) (o : Oper) : Bool := match dr with
  | none => true
  | some hs => bif hs.isEmpty then true else match o.op with
    | .load _ x => match look x with
      | some (.w (.one (.own k _))) => !hs.contains (2000000 + k)
      | _ => true
    | _ => true
def ly (o : Oper) : Bool := match o.op with
  | .store .. => true
  | .alloc _ => true
  | .box .. => true
  | _ => false
def Bl (ops : Array Oper) (hs : List Nat) (dst : Option Nat) : Bool := (List.range ops.size).all fun k => match ops[k]? with
  | some ok => !(ok.dst == dst) || (List.range ops.size).all fun j => match ops[j]? with
    | some bk => !(xq bk || dE (some hs) bk) || waits .any ops 8 j k
    | none => true
  | none => true
def u5 (ops : Array Oper) (dr : Option (List Nat)) (dst : Option Nat) : Bool := match dr with
  | none => true
  | some hs => Bl ops hs dst
inductive sc (P : Program) (ops : Array Oper) (dr : Option (List Nat)) (R : aL) (s : aE) (o : Oper) : Bool → cu → Prop
  | lh (b : Bool) (e : cu) (h : e6 P s.n s.look s.mem o b e) (aF : ry dr s.look o = true) : sc P ops dr R s o b e
  | read (av : ai) (h : lc P R s.look o av) (ak : av.closed) (al : u5 ops dr o.dst = true) : sc P ops dr R s o true ⟨av, none⟩
def vT (P : Program) (ops : Array Oper) (dr : Option (List Nat)) (o : Oper) (K : aL → aE → Prop) (R : aL) (s : aE) : Prop :=
  ∃ b, want ops o s = some b ∧ (∀ d, o.dst = some d → d < s.n) ∧ ((∃ e, sc P ops dr R s o b e ∧ K R (e.on o.dst s)) ∨ (b = true ∧ ∃ d f, ∃ iS : Value → Prop, o.dst = some d ∧ (ld P R s.look o f iS ∧ su dr o = false) ∧ ∀ a7 : Value, iS a7 → K (f a7) (s.put (some d) (aU a7))) ∨ (b = true ∧ Sd dr o = true ∧ ∃ aC, o.dst = none ∧ tH P R s.look o aC ∧ K aC s) ∨
    (b = true ∧ dr = none ∧ ∃ d f i, ∃ g : Value → bS, o.dst = some d ∧ ld P R s.look o f Cs ∧ (∀ a7, f a7 i = some (g a7) ∧ (g a7).v = a7 ∧ 0 < (g a7).sz) ∧ ∀ a7 : Value, a7.oneCell' = true → K (fun j => if j = i then none else f a7 j) (s.put (some d) (cT (g a7).sz (g a7).n (g a7).aZ))) ∨
    (b = true ∧ dE dr o = true ∧ vh P (pD dr) R s o K) ∨
    (b = true ∧ dE dr o = true ∧ vh P (pD dr) R s o fun aC s' => ∃ i d r, o.dst = some d ∧ aC i = some r ∧ 0 < r.sz ∧ s'.tmps d = some (aU r.v) ∧ d < s'.n ∧ K (fun j => if j = i then none else aC j) (s'.put (some d) (cT r.sz r.n r.aZ))))
def cQ (P : Program) (ops : Array Oper) (dr : Option (List Nat)) (K : aL → aE → Prop) : List Oper → aL → aE → Prop
  | [], R, s => K R s
  | o :: rest, R, s => vT P ops dr o (cQ P ops dr K rest) R s
def xR (P : Program) (md : Region.Mode) (ops : Array Oper) (hs : List Nat) (K : aL → aE → Prop) : Nat → Array Bool → aL → aE → Prop
  | 0, bA, R, s => Region.ready md ops bA = [] ∧ K R s
  | fz + 1, bA, R, s => (Region.ready md ops bA = [] → K R s) ∧
    ∀ i ∈ Region.ready md ops bA, ∀ o, ops[i]? = some o → vT P ops (some hs) o (xR P md ops hs K fz (bA.setIfInBounds i true)) R s
section
variable {P : Program} {bq : e8} {b0 A : Nat → Prop} {R : aL} {s s' : aE} {a a' : Act} {w w' : World} {ad bg : Nat → Nat} {o bm bk : Oper} {ops : Array Oper} {md : Region.Mode} {dr : Option (List Nat)} {hs : List Nat}
theorem sc.ok {b : Bool} {e : cu} (ok : s.cU) (h : sc P ops dr R s o b e) (hd : ∀ d, o.dst = some d → d < s.n) : (e.on o.dst s).cU := by
  cases h with
  | lh b e h aF => exact zy ok h hd
  | read av h ak al => exact ok.put fun j af => absurd af (ak j)
theorem JT (ok : s.cU) (d : Nat) (v : Value) : (s.put (some d) (aU v)).cU := ok.put fun j af => absurd af (jq v j)
theorem Ny {K je : aL → aE → Prop} (ok : s.cU) (h : ∀ R s, s.cU → K R s → je R s) (aW : vT P ops dr o K R s) : vT P ops dr o je R s := by
  obtain ⟨b, hw, hd, h1 | ⟨ab, d, f, iS, dD, aw, ae⟩ | ⟨ab, o3, aC, dD, aw, ae⟩ | ⟨ab, o3, d, f, i, g, dD, aw, ax, ae⟩ | ⟨ab, hm, ak⟩ | ⟨ab, hm, ak⟩⟩ := aW
  · obtain ⟨e, he, ae⟩ := h1
    exact ⟨b, hw, hd, .inl ⟨e, he, h _ _ (he.ok ok hd) ae⟩⟩
  · exact ⟨b, hw, hd, .inr (.inl ⟨ab, d, f, iS, dD, aw, fun a7 hv => h _ _ (JT ok d a7) (ae a7 hv)⟩)⟩
  · exact ⟨b, hw, hd, .inr (.inr (.inl ⟨ab, o3, aC, dD, aw, h _ _ ok ae⟩))⟩
  · exact ⟨b, hw, hd, .inr (.inr (.inr (.inl ⟨ab, o3, d, f, i, g, dD, aw, ax, fun a7 hv => h _ _ (ok.put fun j af => absurd af (lY _ j)) (ae a7 hv)⟩)))⟩
  · exact ⟨b, hw, hd, .inr (.inr (.inr (.inr (.inl ⟨ab, hm, ak.mono ok h⟩))))⟩
  · refine ⟨b, hw, hd, .inr (.inr (.inr (.inr (.inr ⟨ab, hm, ak.mono ok fun R s adq ae => ?_⟩))))⟩
    obtain ⟨i, d, r, aJ, h1, a6, h2, ao, aH⟩ := ae;exact ⟨i, d, r, aJ, h1, a6, h2, ao, h _ _ (adq.put fun j af => absurd af (lY _ j)) aH⟩
theorem eJ.vH (ay : eJ bq b0 R s a w A ad) (i d : Nat) (r : bS) (hi : R i = some r) (b4 : 0 < r.sz) (Y9 : s.tmps d = some (aU r.v)) (gr : d < s.n) : ∃ dW, eJ bq b0 (fun j => if j = i then none else R j) (s.put (some d) (cT r.sz r.n r.aZ)) a w dW ad := by
  obtain ⟨o5, cW, ax⟩ := ay.rows i r hi;obtain ⟨xs, aB, ap⟩ := o5.row b4;have zP : ∀ b, s.free A ad b → b < w.heap.size → s.free (fun b => A b ∨ r.v.ownBlock = some b) ad b ∧ w.heap[b]? = w.heap[b]? := fun b ab _ => ⟨⟨.inl ab.1, ab.2⟩, rfl⟩;have HN : Rel (n8 bq s ad w) (fun b => A b ∨ r.v.ownBlock = some b) s ad a w := ay.rel.zh (fun b ab _ => ⟨.inl ab, rfl⟩) (fun k cs ae => ⟨rfl, fun aw => aw.2 k cs ae rfl⟩) (km.refl _) (fun b ab => .inl (ay.rel.up b ab)) (xS _ _ _)
  have um : eJ bq b0 (fun j => if j = i then none else R j) s a w (fun b => A b ∨ r.v.ownBlock = some b) ad := by
    refine ⟨ay.up, ?_, HN, ay.pg, ay.below, fun j q af => ?_, fun j k q bT af ae lq => ?_, fun j q g af => ?_, ay.ku⟩
    · rintro b (ab | ab)
      · exact ay.sub b ab
      · exact (ay.hot i r b hi (.inl ab)).2
    · have gQ : j ≠ i := fun e => by rw [if_pos e] at af; cases af
      rw [if_neg gQ] at af;obtain ⟨lU, BJ, BK⟩ := ay.rows j q af;refine ⟨lU.kept BJ (fun _ _ => rfl) (eb _) zP, BJ, fun g eM => ⟨?_, (BK g eM).2⟩⟩;rintro (ab | ab)
      · exact (BK g eM).1 ab
      · exact ay.apart i j r q hi af (Ne.symm gQ) g (.inl ab) eM
    · have gQ : j ≠ i := fun e => by rw [if_pos e] at af; cases af
      have kW : k ≠ i := fun e => by rw [if_pos e] at ae; cases ae
      rw [if_neg gQ] at af;rw [if_neg kW] at ae;exact ay.apart j k q bT af ae lq
    · have gQ : j ≠ i := fun e => by rw [if_pos e] at af; cases af
      rw [if_neg gQ] at af;exact ay.hot j q g af
  have HO : Rel (n8 bq s ad w) (fun b => A b ∨ r.v.ownBlock = some b) (s.put (some d) (cT r.sz r.n r.aZ)) ad a w := by
    refine um.rel.RG Y9 fun v ic nC => ?_;obtain ⟨rfl, HC⟩ := nC;have oc := ap.1;obtain ⟨lr, aD | ⟨g, cap, cur, kU, ri, vY, eX, j3, eL, om⟩⟩ := id aB
    · obtain ⟨aG, aM⟩ := aD
      have : r.aZ = [] := mE (by rw [oc, lr, aM]; simp);rw [aG];exact ⟨⟨none, 0, by rw [aM], by omega, by rw [this, aM]; simp, fun h => absurd h (by omega)⟩, fun b ⟨c', a', q, aD, ab⟩ => by cases q⟩
    · have uu := aB.cells (g := g) (by rw [kU]; rfl)
      rw [kU];have re : lb w ⟨g, 0, none⟩ r.aZ xs := ⟨(k4.1 vY).1, ap.xA cW fun b _ _ => ⟨trivial, rfl⟩, uu, cW⟩;refine ⟨⟨some ⟨g, 0, none⟩, cap, rfl, eX, by rw [oc]; exact lr, fun aD => ⟨⟨g, 0, none⟩, xs, rfl, re⟩⟩, ?_⟩;rintro b ⟨c', a', q, aD, aw⟩;cases q;rcases aw with rfl | ⟨j, y, v, ag, hv, gP⟩
      · exact ⟨.inr rfl, (ax g (.inl (by rw [kU]; rfl))).2⟩
      · have bh : j < xs.length := by rw [← oc]; exact (bP.1 ag).1
        have h2 := uu j _ (cj bh);rw [hv] at h2;cases h2;have ao := ap.2 j y _ ag (cj bh);cases y with
        | c u => cases gP
        | own k o => cases gP
        | p S => have := ao.2 b gP; exact ⟨.inl this.1, this.2⟩
  exact ⟨_, um.next (s' := s.put (some d) (cT r.sz r.n r.aZ)) (a' := a) (w' := w) (bg := ad) HO⟩
theorem Bg (s : aE) (d : Nat) (u v : ai) : (s.put (some d) u).put (some d) v = s.put (some d) v := by
  simp only [aE.put, aE.mk.injEq, true_and, and_true];funext j
  by_cases e : j = d
  · subst e; rw [cw, cw]
  · rw [cl _ _ e, cl _ _ e, cl _ _ e]
theorem Nz {ro : Option Nat} {K : aL → aE → Prop} {je : Act → World → Prop} {Q : Exit → Act → World → Prop} {i : Nat} (hi : ops[i]? = some o) (ok : s.cU) (ay : pR bq b0 R s a w) (h : vT P ops dr o K R s)
    (ek : ∀ aC s' a' w', s'.cU → pR bq b0 aC s' a' w' → K aC s' → je a' w') : wpOpIn (mK ro) 0 P ops Q i je a w := by
  obtain ⟨A, ad, ay⟩ := ay;obtain ⟨b, hw, hd, h⟩ := h;have lu := SN hw ay.rel;unfold wpOpIn;simp only [hi];cases b with
  | true =>
    rw [lu];simp only [if_true];refine Oper.SP ?_ ?nd
    case nd =>
      rcases h with ⟨e, he, _⟩ | ⟨_, d, f, iS, dD, ⟨aw, _⟩, _⟩ | ⟨_, _, aC, dD, aw, _⟩ | ⟨_, _, d, f, i, g, dD, aw, _⟩ | ⟨_, _, ak⟩ | ⟨_, _, ak⟩
      · cases he with
        | lh b e he _ => exact (he.step hd).Qg ay.rel
        | read av h ak al =>
          obtain ⟨v, h1, h2⟩ := h.sound ay;exact yn h1 (fun d h => by cases h)
      · obtain ⟨a7, w2, dW, h1, _⟩ := aw.sound ay (hd d dD)
        exact yn h1 (fun d h => by cases h)
      · obtain ⟨w2, dW, h1, _⟩ := aw.sound ay
        exact yn h1 (fun d h => by cases h)
      · obtain ⟨a7, w2, dW, h1, _⟩ := aw.sound ay (hd d dD)
        exact yn h1 (fun d h => by cases h)
      · obtain ⟨f, args, m0, R0, Post, ⟨⟨c', g, aB, _⟩, _⟩, _⟩ := ak.ex
        intro c n9; rw [aB] at n9; cases n9
      · obtain ⟨f, args, m0, R0, Post, ⟨⟨c', g, aB, _⟩, _⟩, _⟩ := ak.ex
        intro c n9; rw [aB] at n9; cases n9
    rcases h with ⟨e, he, ae⟩ | ⟨_, d, f, iS, dD, ⟨aw, _⟩, ae⟩ | ⟨_, _, aC, dD, aw, ae⟩ | ⟨_, _, d, f, i, g, dD, aw, ax, ae⟩ | ⟨_, _, ak⟩ | ⟨_, _, ak⟩
    · have dz := he.ok ok hd
      cases he with
      | lh b e he _ => exact Oper.wp_mono (fun a' w' ⟨bg, al⟩ => ek _ _ a' w' dz ⟨A, bg, ay.next al⟩ ae) (lJ.sound (he.step hd) ay.rel ok)
      | read av h ak al =>
        obtain ⟨v, h1, h2⟩ := h.sound ay;exact Oper.w5 h1 (ek _ _ _ _ dz ⟨A, ad, ay.put hd h2⟩ ae)
    · obtain ⟨a7, w2, dW, h1, h2, ao⟩ := aw.sound ay (hd d dD)
      refine Oper.w5 h1 ?_;rw [dD];exact ek _ _ _ _ (JT ok d a7) ⟨dW, ad, ao⟩ (ae a7 h2)
    · obtain ⟨w2, dW, h1, h2⟩ := aw.sound ay
      unfold Oper.wp;rw [h1, Oper.upon_skip, dD];exact ek _ _ _ _ ok ⟨dW, ad, h2⟩ ae
    · have gr := hd d dD
      obtain ⟨a7, w2, dW, h1, h2, ao⟩ := aw.sound ay gr;refine Oper.w5 h1 ?_;rw [dD];obtain ⟨lI, aH⟩ := ao.vH i d (g a7) (ax a7).1 (ax a7).2.2 (by rw [(ax a7).2.1]; exact cw _ _ _) gr;rw [Bg] at aH;exact ek _ _ _ _ (ok.put fun j af => absurd af (lY _ j)) ⟨lI, ad, aH⟩ (ae a7 h2)
    · exact ak.sound hd ay ok ek
    · refine ak.sound hd ay ok fun aC s' a' w' dz cE ae => ?_
      obtain ⟨i, d, r, _, h1, a6, h2, ao, aH⟩ := ae;obtain ⟨lI, BS, um⟩ := cE;obtain ⟨nR, HO⟩ := um.vH i d r h1 a6 h2 ao;exact ek _ _ _ _ (dz.put fun j af => absurd af (lY _ j)) ⟨nR, BS, HO⟩ aH
  | false =>
    rw [lu];simp only [oC, if_false];rcases h with ⟨e, he, ae⟩ | ⟨h, _⟩ | ⟨h, _⟩ | ⟨h, _⟩ | ⟨h, _⟩ | ⟨h, _⟩
    · have dz := he.ok ok hd
      cases he with
      | lh b e he _ =>
        cases he;exact ⟨fun _ _ => trivial, ek _ _ _ _ dz ⟨A, ad, ay.put hd (dn.undef _)⟩ ae⟩
    · cases h
    · cases h
    · cases h
    · cases h
    · cases h
theorem e6.C2 {n : Nat} {look gR : Operand → Option ai} {mem : Nat → Option (List AC)} {b : Bool} {e : cu} (h : e6 P n look mem o b e) (el : ∀ x ∈ o.op.operands, gR x = look x) : e6 P n gR mem o b e := by
  cases h with
  | skip => exact .skip
  | quiet av an => exact .quiet av (an.congr el)
  | fresh av an => exact .fresh av (an.congr el)
  | load ty x k off cs av aB aa hm hv => exact .load ty x k off cs av aB (by rw [el x (by simp [aB, Op.operands])]; exact aa) hm hv
  | store ty x y k off cs z i aB aa ag hm hi hs ab => exact .store ty x y k off cs z i aB (by rw [el x (by simp [aB, Op.operands])]; exact aa) (by rw [el y (by simp [aB, Op.operands])]; exact ag) hm hi hs ab
  | new cs d dD hm aD => exact .new cs d dD hm (aD.congr el)
  | call g args r ak hp => exact .call g args r (ak.congr el) hp
theorem ld.ext {look : Operand → Option ai} {f : Value → aL} {iS : Value → Prop} (h : ld P R look o f iS) (aD : xq o = false) (v : Value) : bL R (f v) := by
  cases h with
  | vA i r tt bytes m jT kj news hi aB => simp [xq, aB] at aD
  | copy i r tt t2 m lo hi x y news c3 b4 aB => simp [xq, aB] at aD
  | new i t n e sz bytes parts vs zs r hi =>
    intro j q af;have : j ≠ i := fun e => by subst e; rw [hi] at af; cases af
    show bJ R i _ j = some q;rw [cl _ _ this]; exact af
  | make i t l c e sz bytes x y pd qv vs hi =>
    intro j q af;have : j ≠ i := fun e => by subst e; rw [hi] at af; cases af
    show bJ R i _ j = some q;rw [cl _ _ this]; exact af
theorem e6.Qh {n : Nat} {look : Operand → Option ai} {mem : Nat → Option (List AC)} {b : Bool} {e : cu} (h : e6 P n look mem o b e) (hm : ly o = false) : e.m = none := by
  cases h with
  | skip => rfl
  | quiet av an => rfl
  | fresh av an => rfl
  | load ty x k off cs av aB aa gv hv => rfl
  | store ty x y k off cs z i aB aa ag gv hi hs ab => simp [ly, aB] at hm
  | new cs d dD gv aD =>
    cases aD with
    | alloc ty i z cs aB => simp [ly, aB] at hm
    | box ty x z aB => simp [ly, aB] at hm
  | call g args r ak hp => rfl
theorem e6.Qi {n : Nat} {look : Operand → Option ai} {mem PE : Nat → Option (List AC)} {b : Bool} {e : cu} (h : e6 P n look mem o b e) (hm : ly o = false) (ZB : ∀ ty x k off cs, o.op = .load ty x → look x = some (.w (.one (.own k off))) → mem k = some cs → PE k = some cs) : e6 P n look PE o b e := by
  cases h with
  | skip => exact .skip
  | quiet av an => exact .quiet av an
  | fresh av an => exact .fresh av an
  | load ty x k off cs av aB aa gv hv => exact .load ty x k off cs av aB aa (ZB ty x k off cs aB aa gv) hv
  | store ty x y k off cs z i aB aa ag gv hi hs ab => simp [ly, aB] at hm
  | new cs d dD gv aD =>
    cases aD with
    | alloc ty i z cs aB => simp [ly, aB] at hm
    | box ty x z aB => simp [ly, aB] at hm
  | call g args r ak hp => exact .call g args r ak hp
theorem AP {look gR : Operand → Option ai} (h : ry dr look o = true) (e : ∀ x ∈ o.op.operands, gR x = look x) : ry dr gR o = true := by
  unfold ry at h ⊢;cases dr with
  | none => rfl
  | some hs =>
    simp only at h ⊢;cases he : hs.isEmpty with
    | true => rfl
    | false =>
      rw [he] at h;simp only [cond_false] at h ⊢;cases aB : o.op with
      | load ty x =>
        rw [aB] at h;simp only at h ⊢;rw [e x (by simp [aB, Op.operands])]; exact h
      | _ => rfl
theorem Pg {hs : List Nat} {look : Operand → Option ai} {ty : TypeId} {x : Operand} {k off : Nat} (h : ry (some hs) look o = true) (aB : o.op = .load ty x) (aa : look x = some (.w (.one (.own k off)))) : pD (some hs) k = false := by
  unfold ry at h;simp only at h;cases he : hs.isEmpty with
  | true =>
    have : hs = [] := List.isEmpty_iff.1 he;subst this; rfl
  | false =>
    rw [he] at h;simp only [cond_false, aB, aa, tf] at h;exact h
theorem tH.congr {look gR : Operand → Option ai} {aC : aL} (h : tH P R look o aC) (e : ∀ x ∈ o.op.operands, gR x = look x) : tH P R gR o aC := by
  cases h with
  | store i r off ty x y z eP hi aD aB aa ag aF hs ab ak => exact .store i r off ty x y z eP hi aD aB (by rw [e x (by simp [aB, Op.operands])]; exact aa) (by rw [e y (by simp [aB, Op.operands])]; exact ag) aF hs ab ak
theorem YA {b : Bool} {e : cu} {K : aL → aE → Prop} (ok : s.cU) (hw : want ops bm s = some b) (he : sc P ops (some hs) R s bm b e) (uv : ∀ d, bm.dst = some d → d < s.n) (qi : bm.apart ops bk = true) (mU : y1 s bm bk) (x5 : Bl ops hs bm.dst = true → xq bk = false ∧ dE (some hs) bk = false) (Ad : ly bm = true → dE (some hs) bk = false) (h : vT P ops (some hs) bk K R (e.on bm.dst s)) :
    vT P ops (some hs) bk (fun aC t => (∃ (f : cu) (dG : Mem), t = f.on bk.dst { s with mem := dG }) ∧ (want ops bm t = some b ∧ sc P ops (some hs) aC t bm b e ∧ (∀ d, bm.dst = some d → d < t.n) ∧ t.cU) ∧ K aC (e.on bm.dst t)) R s := by
  obtain ⟨a1, a2, a3⟩ := Oper.apart_spec qi;obtain ⟨c, sS, rk, aW⟩ := h;rw [yN (b := none) a1] at sS;have vW : ∀ d, bk.dst = some d → d < s.n := fun d hd => by have := rk d hd; rwa [cu.uW] at this
  have mZ : ∀ x ∈ bk.op.operands, (e.on bm.dst s).look x = s.look x := fun x aa => cu.rC _ _ _ fun d hd => uK (a1 d hd) aa;have lx : ∀ (f : cu), ∀ x ∈ bm.op.operands, (f.on bk.dst s).look x = s.look x := fun f x aa => cu.rC _ _ _ fun d hd => uK (a3 d hd) aa;have wi : ∀ f : cu, want ops bm (f.on bk.dst s) = some b := fun f => by rw [yN (b := none) a3]; exact hw
  have pn : ∀ f : cu, ∀ d, bm.dst = some d → d < (f.on bk.dst s).n := fun f d hd => by rw [cu.uW]; exact uv d hd
  have Mj : ∀ f : cu, f.m = none → f.on bk.dst (e.on bm.dst s) = e.on bm.dst (f.on bk.dst s) := fun f aw => cu.A9 e f bm.dst bk.dst s a2 fun k cs j ds _ h2 => by rw [aw] at h2; cases h2
 
  have R8 : ∀ (aC : aL) (f : cu), f.m = none → (Bl ops hs bm.dst = true → bL R aC) → sc P ops (some hs) aC (f.on bk.dst s) bm b e := fun aC f aw ap => by
    cases he with
    | lh b e he aF =>
      refine .lh _ _ ?_ (AP aF (lx f));rw [cu.uW, cu.rD, aw];exact he.C2 (lx f)
    | read av h ak al => exact .read av ((h.rows (ap al)).congr (lx f)) ak al
  refine ⟨c, sS, vW, ?_⟩;rcases aW with ⟨f, aw, ae⟩ | ⟨ab, d, f, iS, dD, aw, ae⟩ | ⟨ab, o3, Y8⟩ | ⟨_, o3, _⟩ | ⟨ab, hm, ak⟩ | ⟨ab, hm, ak⟩
  · left
    cases aw with
    | lh c f aw aac =>
      have Ou := AP aac fun x aa => (mZ x aa).symm;cases id he with
      | lh b e Zf fj =>
        obtain ⟨h1, h2, ao⟩ := e6.swap ok Zf aw qi mU;exact ⟨f, .lh _ _ h1 Ou, ⟨f, s.mem, rfl⟩, ⟨wi f, .lh _ _ h2 (AP fj (lx f)), pn f, zy ok h1 vW⟩, by rw [← ao]; exact ae⟩
      | read av h ak al =>
        have h1 : e6 P s.n s.look s.mem bk c f := by
          have : e6 P s.n ((⟨av, none⟩ : cu).on bm.dst s).look s.mem bk c f := by
            have := aw;rw [cu.uW, cu.rD] at this;exact this
          exact this.C2 fun x aa => (mZ x aa).symm
        refine ⟨f, .lh _ _ h1 Ou, ⟨f, s.mem, rfl⟩, ⟨wi f, .read av (h.congr (lx f)) ak al, pn f, zy ok h1 vW⟩, ?_⟩;have : f.on bk.dst ((⟨av, none⟩ : cu).on bm.dst s) = (⟨av, none⟩ : cu).on bm.dst (f.on bk.dst s) := cu.A9 _ f bm.dst bk.dst s a2 fun k cs j ds h1 _ => by cases h1
        rw [← this]; exact ae
    | read av al ak ZZ =>
      have h1 : lc P R s.look bk av := al.congr fun x aa => (mZ x aa).symm;refine ⟨⟨av, none⟩, .read av h1 ak ZZ, ⟨⟨av, none⟩, s.mem, rfl⟩, ⟨wi _, R8 R _ rfl (fun _ => .refl R), pn _, ok.put fun j af => absurd af (ak j)⟩, ?_⟩;rw [← Mj _ rfl]; exact ae
  · right; left
    have h1 : ld P R s.look bk f iS := aw.1.congr fun x aa => (mZ x aa).symm;refine ⟨ab, d, f, iS, dD, ⟨h1, aw.2⟩, fun a7 hv => ?_⟩;have aG : s.put (some d) (aU a7) = (⟨aU a7, none⟩ : cu).on bk.dst s := by rw [dD]; rfl
    have aM : (e.on bm.dst s).put (some d) (aU a7) = (⟨aU a7, none⟩ : cu).on bk.dst (e.on bm.dst s) := by rw [dD]; rfl
    have h2 := ae a7 hv;have Qy := JT ok d a7;rw [aM, Mj _ rfl] at h2;rw [aG] at Qy ⊢;exact ⟨⟨_, s.mem, rfl⟩, ⟨wi _, R8 (f a7) _ rfl (fun aW => h1.ext (x5 aW).1 a7), pn _, Qy⟩, h2⟩
  · obtain ⟨aC, dD, aw, ae⟩ := Y8
    have hm : dE (some hs) bk = true := o3
    have uy : ly bm = false := by
      cases aa : ly bm with
      | false => rfl
      | true => rw [Ad aa] at hm; cases hm
    have mS : e6 P s.n s.look s.mem bm b e ∧ ry (some hs) s.look bm = true := by
      cases he with
      | lh b e he aF => exact ⟨he, aF⟩
      | read av h ak al => rw [(x5 al).2] at hm; cases hm
    have h1 : tH P R s.look bk aC := aw.congr fun x aa => (mZ x aa).symm;exact .inr (.inr (.inl ⟨ab, o3, aC, dD, h1, ⟨⟨ahd, none⟩, s.mem, by rw [dD]; rfl⟩, ⟨hw, .lh _ _ mS.1 mS.2, uv, ok⟩, ae⟩))
  · cases o3
  · right; right; right; right; left
    refine ⟨ab, hm, ?_⟩
    have uy : ly bm = false := by
      cases aa : ly bm with
      | false => rfl
      | true => rw [Ad aa] at hm; cases hm
    have mS : e6 P s.n s.look s.mem bm b e ∧ ry (some hs) s.look bm = true := by
      cases he with
      | lh b e he aF => exact ⟨he, aF⟩
      | read av h ak al => rw [(x5 al).2] at hm; cases hm
    have ql : e.m = none := mS.1.Qh uy;obtain ⟨f, args, m0, R0, Post, HZ, hp, aB, uz, al, gb, ae⟩ := ak.ex;refine ⟨f, args, m0, R0, Post, HZ.congr (fun x aa => (mZ x aa).symm), hp, aB, fun k cs aJ => ?_, al, gb, fun r aK aC h1 h2 ao aH => ?_⟩
    · obtain ⟨this, aF⟩ := uz k cs aJ
      rw [cu.rD, ql] at this;exact ⟨this, aF⟩
    · obtain ⟨f1, ek⟩ := ae r aK aC h1 h2 ao aH
      have zE : (s.over aK).put bk.dst r = (⟨r, none⟩ : cu).on bk.dst { s with mem := b9 aK s.mem } := rfl
      have es : ((e.on bm.dst s).over aK).put bk.dst r = e.on bm.dst ((s.over aK).put bk.dst r) := by
        have dl : e.on bm.dst s = s.put bm.dst e.v := by unfold cu.on; rw [ql]
        have aG : e.on bm.dst ((s.over aK).put bk.dst r) = ((s.over aK).put bk.dst r).put bm.dst e.v := by unfold cu.on; rw [ql]
        have aM : (s.put bm.dst e.v).over aK = (s.over aK).put bm.dst e.v := by cases bm.dst <;> rfl
        rw [dl, aG, aM];exact aE.put_comm (s.over aK) e.v r a2
      have sA : ∀ k au, aK k = some au → (∃ cs, m0 k = some cs) ∨ (s.mem k = none ∧ k < s.n) := fun k au aJ => by
        have := f1 k au aJ;rw [cu.rD, ql, cu.uW] at this;exact this
      have Il : e6 P s.n s.look (b9 aK s.mem) bm b e := mS.1.Qi uy fun ty x k off cs aB aa ae => by
        have aF := Pg mS.2 aB aa;cases wa : aK k with
        | none => rw [hN wa]; exact ae
        | some c =>
          rcases sA k c wa with ⟨lO, aJ⟩ | ⟨aJ, _⟩
          · obtain ⟨qt, ID | sP⟩ := uz k lO aJ
            · rw [ID] at aF; cases aF
            · rw [h4 (sP r aK aC h1)]
              rw [cu.rD, ql] at qt;exact qt.symm.trans ae
          · rw [aJ] at ae; cases ae
      refine ⟨fun k au aJ => ?_, ⟨⟨_, _, zE⟩, ⟨?_, ?_, fun d hd => ?_, ok.JF ao h2 _⟩, by rw [← es]; exact ek⟩⟩
      · exact sA k au aJ
      · rw [zE, yN (b := none) a3]; exact hw
      · refine .lh _ _ ?_ (AP mS.2 fun x aa => by rw [zE]; exact (cu.rC _ _ _ fun d hd => uK (a3 d hd) aa).trans (by cases x <;> rfl))
        have ap : ∀ x ∈ bm.op.operands, ((s.over aK).put bk.dst r).look x = s.look x := fun x aa => by
          rw [zE];exact (cu.rC _ _ _ fun d hd => uK (a3 d hd) aa).trans (by cases x <;> rfl)
        have aD : ((s.over aK).put bk.dst r).n = s.n := by rw [aE.s7]; rfl
        rw [aD, aE.yi];exact Il.C2 ap
      · rw [aE.s7]; exact uv d hd
  · right; right; right; right; right
    refine ⟨ab, hm, ?_⟩
    have uy : ly bm = false := by
      cases aa : ly bm with
      | false => rfl
      | true => rw [Ad aa] at hm; cases hm
    have mS : e6 P s.n s.look s.mem bm b e ∧ ry (some hs) s.look bm = true := by
      cases he with
      | lh b e he aF => exact ⟨he, aF⟩
      | read av h ak al => rw [(x5 al).2] at hm; cases hm
    have ql : e.m = none := mS.1.Qh uy;obtain ⟨f, args, m0, R0, Post, HZ, hp, aB, uz, al, gb, ae⟩ := ak.ex;refine ⟨f, args, m0, R0, Post, HZ.congr (fun x aa => (mZ x aa).symm), hp, aB, fun k cs aJ => ?_, al, gb, fun r aK aC h1 h2 ao aH => ?_⟩
    · obtain ⟨this, aF⟩ := uz k cs aJ
      rw [cu.rD, ql] at this;exact ⟨this, aF⟩
    · obtain ⟨f1, ek⟩ := ae r aK aC h1 h2 ao aH
      have zE : (s.over aK).put bk.dst r = (⟨r, none⟩ : cu).on bk.dst { s with mem := b9 aK s.mem } := rfl;obtain ⟨i, d, q, dD, fJ, Am, Iv, ajc, ek⟩ := ek
      have ZV : ((s.over aK).put bk.dst r).tmps d = some (aU q.v) := by
        rw [dD] at Iv ⊢;simp only [aE.put, cw] at Iv ⊢;exact Iv
      have qn : ((s.over aK).put bk.dst r).n = s.n := by rw [aE.s7]; rfl
      have Dh : ((s.over aK).put bk.dst r).put (some d) (cT q.sz q.n q.aZ) = (⟨cT q.sz q.n q.aZ, none⟩ : cu).on bk.dst { s with mem := b9 aK s.mem } := by rw [dD, Bg]; rfl
      have Hg : (((e.on bm.dst s).over aK).put bk.dst r).put (some d) (cT q.sz q.n q.aZ) = e.on bm.dst (((s.over aK).put bk.dst r).put (some d) (cT q.sz q.n q.aZ)) := by
        have dl : e.on bm.dst s = s.put bm.dst e.v := by unfold cu.on; rw [ql]
        have aG : ∀ u : aE, e.on bm.dst u = u.put bm.dst e.v := fun u => by unfold cu.on; rw [ql]
        have aM : (s.put bm.dst e.v).over aK = (s.over aK).put bm.dst e.v := by cases bm.dst <;> rfl
        rw [dl, aG, aM, dD, Bg, Bg];exact aE.put_comm (s.over aK) e.v _ (by rw [← dD]; exact a2)
      rw [Hg] at ek;have NM : d < s.n := vW d dD
      have sA : ∀ k au, aK k = some au → (∃ cs, m0 k = some cs) ∨ (s.mem k = none ∧ k < s.n) := fun k au aJ => by
        have := f1 k au aJ;rw [cu.rD, ql, cu.uW] at this;exact this
      have Il : e6 P s.n s.look (b9 aK s.mem) bm b e := mS.1.Qi uy fun ty x k off cs aB aa ae => by
        have aF := Pg mS.2 aB aa;cases wa : aK k with
        | none => rw [hN wa]; exact ae
        | some c =>
          rcases sA k c wa with ⟨lO, aJ⟩ | ⟨aJ, _⟩
          · obtain ⟨qt, ID | sP⟩ := uz k lO aJ
            · rw [ID] at aF; cases aF
            · rw [h4 (sP r aK aC h1)]
              rw [cu.rD, ql] at qt;exact qt.symm.trans ae
          · rw [aJ] at ae; cases ae
      refine ⟨fun k au aJ => ?_, i, d, q, dD, fJ, Am, ZV, by rw [qn]; exact NM, ⟨⟨_, _, Dh⟩, ⟨?_, ?_, fun d hd => ?_, (ok.JF ao h2 _).put fun j af => absurd af (lY _ j)⟩, ek⟩⟩
      · exact sA k au aJ
      · rw [Dh, yN (b := none) a3]; exact hw
      · refine .lh _ _ ?_ (AP mS.2 fun x aa => by rw [Dh]; exact (cu.rC _ _ _ fun d hd => uK (a3 d hd) aa).trans (by cases x <;> rfl))
        have ap : ∀ x ∈ bm.op.operands, (((s.over aK).put bk.dst r).put (some d) (cT q.sz q.n q.aZ)).look x = s.look x := fun x aa => by
          rw [Dh];exact (cu.rC _ _ _ fun d hd => uK (a3 d hd) aa).trans (by cases x <;> rfl)
        have aD : (((s.over aK).put bk.dst r).put (some d) (cT q.sz q.n q.aZ)).n = s.n := by rw [aE.s7, aE.s7]; rfl
        rw [aD, aE.yi, aE.yi];exact Il.C2 ap
      · rw [aE.s7, aE.s7]; exact uv d hd
theorem Yr {K : aL → aE → Prop} {i : Nat} {b : Bool} {e : cu} (hi : ops[i]? = some bm) : ∀ (fz : Nat) (bA : Array Bool) (R : aL) (s : aE),
      (∀ j bk, ops[j]? = some bk → j ≠ i → bA.getD j true = false → (∀ e ∈ bk.after, Region.binds .any e = true → e.on ≠ i) → waits .any ops 4 j i = false → waits .any ops 8 j i = false → bm.apart ops bk = true ∧ pV ops bA bm bk s ∧ (ly bm = true → dE (some hs) bk = false)) →
      Down .any ops bA → i ∈ Region.ready .any ops bA → s.cU → want ops bm s = some b → sc P ops (some hs) R s bm b e → (∀ d, bm.dst = some d → d < s.n) →
      xR P .any ops hs K fz (bA.setIfInBounds i true) R (e.on bm.dst s) → xR P .any ops hs K (fz + 1) bA R s := by
  intro fz
  induction fz with
  | zero =>
    intro bA R s _ gr al ok hw he hd H;refine ⟨fun h => (by rw [h] at al; cases al), fun j af bk fZ => ?_⟩
    by_cases gQ : j = i
    · subst gQ; rw [hi] at fZ; cases fZ; exact ⟨b, hw, hd, .inl ⟨e, he, H⟩⟩
    · have := ready_mono af gQ
      rw [H.1] at this;cases this
  | succ fz bW =>
    intro bA R s j4 gr al ok hw he hd H;refine ⟨fun h => (by rw [h] at al; cases al), fun j af bk fZ => ?_⟩
    by_cases gQ : j = i
    · subst gQ; rw [hi] at fZ; cases fZ; exact ⟨b, hw, hd, .inl ⟨e, he, H⟩⟩
    · have h1 := H.2 j (ready_mono af gQ) bk fZ
      obtain ⟨vZ, ado, Aj, di⟩ := mem_ready.1 af;rw [fZ] at Aj;cases Aj
      have sN : ∀ e ∈ bk.after, Region.binds .any e = true → e.on ≠ i := fun e he ab sL => by
        have h1 := di e he ab;have aJ := (mem_ready.1 al).1;rw [sL] at h1;rcases jt i bA.size with ar | ar
        · simp [ar] at aJ h1; rw [aJ] at h1; cases h1
        · simp [wM ar] at h1
      have sT : ∀ f, waits .any ops f j i = false := fun f => by
        cases sS : waits .any ops f j i with
        | false => rfl
        | true =>
          have h1 := KB gr f j i bk fZ di sS;have aJ := (mem_ready.1 al).1;rcases jt i bA.size with ar | ar
          · simp [ar] at aJ h1; rw [aJ] at h1; cases h1
          · simp [wM ar] at h1
      have x5 : Bl ops hs bm.dst = true → xq bk = false ∧ dE (some hs) bk = false := fun h => by
        unfold Bl at h;simp only [cB, List.mem_range] at h;have h1 := h i (k4.1 hi).1;simp only [hi, beq_self_eq_true, Bool.not_true, Bool.false_or, cB, List.mem_range] at h1;have h2 := h1 j (k4.1 fZ).1;simp only [fZ, sT 8, Bool.or_false, tf, Bool.or_eq_false_iff] at h2;exact h2
      obtain ⟨g1, g2, g3⟩ := j4 j bk fZ gQ vZ sN (sT 4) (sT 8);have h2 := YA ok hw he hd g1 g2.sep x5 g3 h1;refine Ny ok (fun aC t akk ao => ?_) h2;obtain ⟨⟨f, dG, rfl⟩, ao⟩ := ao
      have H5 : ∀ k ok, ops[k]? = some ok → k ≠ i → (bA.setIfInBounds j true).getD k true = false →
          (∀ e ∈ ok.after, Region.binds .any e = true → e.on ≠ i) → waits .any ops 4 k i = false → waits .any ops 8 k i = false → bm.apart ops ok = true ∧ pV ops (bA.setIfInBounds j true) bm ok (f.on bk.dst { s with mem := dG }) ∧ (ly bm = true → dE (some hs) ok = false) := fun k ok ae kW iP fY Ee aaj => by
        have uF : bA.getD k true = false := by
          by_cases lq : j = k
          · subst lq; exact vZ
          · rwa [getD_set_ne true lq] at iP
        obtain ⟨q1, q2, cr⟩ := j4 k ok ae kW uF fY Ee aaj;exact ⟨q1, (show pV ops bA bm ok { s with mem := dG } from q2).on fZ vZ, cr⟩
      refine bW (bA.setIfInBounds j true) aC _ H5 (gr.set af) (ready_mono al (Ne.symm gQ)) ao.1.2.2.2 ao.1.1 ao.1.2.1 ao.1.2.2.1 ?_;rw [Array.setIfInBounds_comm _ _ gQ];exact ao.2
theorem Nt {ro : Option Nat} {K : aL → aE → Prop} {Q : Exit → Act → World → Prop} (jF : ∀ aC s' a' w', s'.cU → pR bq b0 aC s' a' w' → K aC s' → Q .normal a' w') : ∀ (fz : Nat) (bA : Array Bool) (R : aL) (s : aE) (a : Act) (w : World), s.cU → pR bq b0 R s a w →
    xR P md ops hs K fz bA R s → wpAnyIn (mK ro) 0 P md ops Q fz bA a w
  | 0, _, _, _, _, _, ok, ay, h => ⟨h.1, jF _ _ _ _ ok ay h.2⟩
  | fz + 1, bA, R, s, a, w, ok, ay, h => ⟨fun aJ => jF _ _ _ _ ok ay (h.1 aJ), fun i hi => by
      obtain ⟨aJ, o, aB, _⟩ := mem_ready.1 hi;exact Nz aB ok ay (h.2 i hi o aB) fun aC s' a' w' dz cE ae => Nt jF fz _ aC s' a' w' dz cE ae⟩
theorem zQ {K : aL → aE → Prop} (uA : ∀ o, dE dr o = false) : ∀ (l : List Oper) (R : aL) (s : aE), cQ P ops dr K l R s → ∃ aC s', K aC s' ∧ ∀ t, (∀ o ∈ l, o.dst ≠ some t) → s'.tmps t = s.tmps t
  | [], R, s, h => ⟨R, s, h, fun _ _ => rfl⟩
  | o :: l, R, s, ⟨b, hw, hd, h⟩ => by
    rcases h with ⟨e, he, ek⟩ | ⟨_, d, f, iS, dD, aw, ek⟩ | ⟨_, _, bl, dD, aw, ek⟩ | ⟨_, _, d, f, i, g, dD, aw, ax, ek⟩ | ⟨_, hm, _⟩ | ⟨_, hm, _⟩
    · obtain ⟨aC, s', h1, h2⟩ := zQ uA l _ _ ek
      exact ⟨aC, s', h1, fun t aF => (h2 t fun cR hn => aF cR (by simp [hn])).trans (cu.yr (aF o (by simp)))⟩
    · obtain ⟨v1, ic⟩ := aw.1.out
      obtain ⟨aC, s', h1, h2⟩ := zQ uA l _ _ (ek v1 ic);refine ⟨aC, s', h1, fun t aF => (h2 t fun cR hn => aF cR (by simp [hn])).trans ?_⟩;have := aF o (by simp);rw [dD] at this;exact cu.yr (e := ⟨aU v1, none⟩) this
    · obtain ⟨aC, s', h1, h2⟩ := zQ uA l _ _ ek
      exact ⟨aC, s', h1, fun t aF => h2 t fun cR hn => aF cR (by simp [hn])⟩
    · obtain ⟨aC, s', h1, h2⟩ := zQ uA l _ _ (ek (.bool false) rfl)
      refine ⟨aC, s', h1, fun t aF => (h2 t fun cR hn => aF cR (by simp [hn])).trans ?_⟩;have := aF o (by simp);rw [dD] at this;exact cu.yr (e := ⟨cT (g (.bool false)).sz (g (.bool false)).n (g (.bool false)).aZ, none⟩) this
    · rw [uA o] at hm; cases hm
    · rw [uA o] at hm; cases hm
def Ob (ops : Array Oper) (hs : List Nat) (bA : Array Bool) (i : Nat) : Bool := (List.range ops.size).all fun j => Nat.beq j i || bA.getD j true || match ops[j]? with
  | some bk => !dE (some hs) bk || waits .any ops 8 j i
  | none => true
def AR (ops : Array Oper) (ik : List (Nat × Nat)) (hs : List Nat) : List Nat → Array Bool → Bool
  | [], bA => (Region.ready .any ops bA).isEmpty
  | k :: ord, bA => (bif (match ops[k]? with | some o => (wg o && !su (some hs) o) || dE (some hs) o | none => true) then Region.ready .any ops bA == [k] else (Region.ready .any ops bA).contains k && Region.free .any ops bA k && EI .any ops ik bA k && (!(match ops[k]? with | some o => ly o | none => true) || Ob ops hs bA k)) && AR ops ik hs ord (bA.setIfInBounds k true)
theorem ld.hot {look : Operand → Option ai} {f : Value → aL} {iS : Value → Prop} (h : ld P R look o f iS) : wg o = true := by
  cases h with
  | vA i r tt bytes m jT kj news hi aB => simp [wg, aB]
  | copy i r tt t2 m lo hi x y news c3 b4 aB => simp [wg, aB]
  | new i t n e sz bytes parts vs zs r hi aB => simp [wg, aB]
  | make i t l c e sz bytes x y pd qv vs hi aB => simp [wg, aB]
theorem Ns {K : aL → aE → Prop} {ik : List (Nat × Nat)} (N2 : ik = [] ∨ hs = []) : ∀ (ord : List Nat) (l : List Oper) (bA : Array Bool) (R : aL) (s : aE), l.length = ord.length → (∀ (j : Nat), l[j]? = (ord[j]?).bind (ops[·]?)) → (∀ k ∈ ord, bA.getD k true = false) → (∀ k, k < ops.size → bA.getD k true = false → k ∈ ord) → ord.Nodup → Down .any ops bA → s.cU →
    AR ops ik hs ord bA = true → cQ P ops (some hs) (fun R s => ik.all (mG s) = true ∧ K R s) l R s → xR P .any ops hs K l.length bA R s
  | [], [], _, _, _, _, _, _, _, _, _, _, fG, h => ⟨by simpa [AR] using fG, h.2⟩
  | [], _ :: _, _, _, _, hlen, _, _, _, _, _, _, _, _ => by cases hlen
  | _ :: _, [], _, _, _, hlen, _, _, _, _, _, _, _, _ => by cases hlen
  | k :: ord, o :: l, bA, R, s, hlen, ap, iP, H0, hJ, gr, ok, fG, h => by
    have aJ : ops[k]? = some o := by simpa using (ap 0).symm
    have sK := fun uA => zQ (dr := some hs) uA _ _ _ h;simp only [AR, aJ, eh] at fG;obtain ⟨ae, HF⟩ := fG;rw [List.nodup_cons] at hJ;have ca : ∀ q ∈ ord, k ≠ q := fun q an e => hJ.1 (by rw [e]; exact an)
    have bW : ∀ aC s', s'.cU → k ∈ Region.ready .any ops bA → cQ P ops (some hs) (fun R s => ik.all (mG s) = true ∧ K R s) l aC s' → xR P .any ops hs K l.length (bA.setIfInBounds k true) aC s' := fun aC s' dz al aW => by
      refine Ns N2 ord l _ aC s' (by simpa using hlen) (fun j => by simpa using ap (j + 1)) (fun q an => by rw [getD_set_ne true (ca q an)]; exact iP q (by simp [an])) (fun q an v8 => ?_) hJ.2 (gr.set al) dz HF aW
      by_cases bu : k = q
      · subst bu
        have : k < bA.size := by
          have := iP k (by simp);rcases jt k bA.size with ar | ar
          · exact ar
          · simp [wM ar] at this
        simp [this] at v8
      · rw [getD_set_ne true bu] at v8
        rcases gS.1 (H0 q an v8) with ar | ar
        · exact absurd ar.symm bu
        · exact ar
    cases aW : ((wg o && !su (some hs) o) || dE (some hs) o) with
    | true =>
      rw [aW] at ae;simp only [cond_true, beq_iff_eq] at ae;have al : k ∈ Region.ready .any ops bA := by rw [ae]; simp
      refine ⟨fun h1 => (by rw [ae] at h1; cases h1), fun i hi bm N6 => ?_⟩;rw [ae] at hi;obtain rfl : i = k := by simpa using hi
      rw [aJ] at N6;cases N6;exact Ny ok (fun aC s' dz aW => bW aC s' dz al aW) h
    | false =>
      rw [aW] at ae;simp only [cond_false, eh] at ae;obtain ⟨⟨⟨al, aw⟩, hm⟩, Ae⟩ := ae;rw [Bool.or_eq_false_iff] at aW;have D6 : k ∈ Region.ready .any ops bA := by simpa using al
      obtain ⟨b, hw, hd, h1⟩ := h;rcases h1 with ⟨e, he, ek⟩ | ⟨_, d, f, iS, dD, mq, _⟩ | ⟨_, o3, _⟩ | ⟨_, o3, _⟩ | ⟨_, gv, _⟩ | ⟨_, gv, _⟩
      · have ms : ∀ p ∈ ik, po ops bA p.1 = true → po ops bA p.2 = true → mG s p = true := fun p hp fT fC => by
          have qt : hs = [] := by
            rcases N2 with aJ | aJ
            · rw [aJ] at hp; cases hp
            · exact aJ
          obtain ⟨aC, s', ⟨h1, _⟩, h2⟩ := sK fun o => by rw [qt]; simp [dE]
          have hM : ∀ t, po ops bA t = true → ∀ cR ∈ o :: l, cR.dst ≠ some t := fun t aF cR hn => by
            obtain ⟨j, af⟩ := kA hn;rw [ap j] at af;cases an : (k :: ord)[j]? with
            | none => rw [an] at af; cases af
            | some q => rw [an] at af; exact EV aF q cR af (iP _ (dL an))
          have := cB.1 h1 p hp;unfold mG at this ⊢;rw [h2 p.1 (hM _ fT), h2 p.2 (hM _ fC)] at this;exact this
        refine Yr aJ l.length bA R s (fun j bk h1 h2 ao aH cM fQ => ⟨Region.free_spec aJ aw j bk h1 h2 ao aH, PH aJ hm ms j bk h1 h2 ao cM, fun Ad => ?_⟩) gr D6 ok hw he hd ?_
        · rw [Ad] at Ae
          simp only [Bool.not_true, Bool.false_or] at Ae;unfold Ob at Ae;simp only [cB, List.mem_range] at Ae;have q := Ae j (k4.1 h1).1;simp only [h1, ao, fQ, Bool.or_false, rK, tf] at q;rcases q with q | q
          · exact absurd (hP q) h2
          · exact q
        exact bW _ _ (he.ok ok hd) D6 ek
      · rw [mq.1.hot, mq.2] at aW; cases aW.1
      · have gv : dE (some hs) o = true := o3
        rw [aW.2] at gv; cases gv
      · cases o3
      · rw [aW.2] at gv; cases gv
      · rw [aW.2] at gv; cases gv
def fO (P : Program) (c : Code) (Q : Exit → aL → aE → Prop) (R : aL) (s : aE) : Prop :=
  s.cU → ∀ bq b0 a w, pR bq b0 R s a w → kK P c (fun x a' w' => ∃ aC s', s'.cU ∧ pR bq b0 aC s' a' w' ∧ Q x aC s') a w
def J2 (l : List Oper) (ord hs : List Nat) : Bool := ((wE l.toArray ord).isEmpty || hs.isEmpty) && Nat.beq ord.length l.length && A2 ord && (List.range l.length).all (fun i => ord.contains i) && ord.all (fun i => Nat.blt i l.length) && AR l.toArray (wE l.toArray ord) hs ord (Array.replicate l.length false)
variable {Q : Exit → aL → aE → Prop} {x y c : Code}
theorem l5 (ord hs : List Nat) {id : Nat} {l cF : List Oper} (fG : J2 l ord hs = true) (hm : P.follows .mixedOrders = true) (ap : getAll l ord = some cF)
    (h : cQ P l.toArray (some hs) (fun R s => (wE l.toArray ord).all (mG s) = true ∧ Q .normal R s) cF R s) : fO P (.region id l.toArray true) Q R s := by
  intro ok bq b0 a w ay;refine SJ hm fun ro => ?_;unfold J2 at fG;simp only [eh, cB, List.mem_range, List.contains_eq_mem, cL] at fG;obtain ⟨⟨⟨⟨⟨vE, oS⟩, b1⟩, b2⟩, ey⟩, dQ⟩ := fG;obtain ⟨g1, g2⟩ := Hv _ _ ap;obtain ⟨A, ad, ay⟩ := ay;have hd : eJ bq b0 R s a { w with drawn := w.drawn + 1 } A ad := ay.next (ay.rel.call ((Below.refl _ w).drew))
  refine Nt (K := Q .normal) (hs := hs) (fun aC s' a' w' dz cE ae => ⟨aC, s', dz, cE, ae⟩) _ _ R s a _ ok ⟨A, ad, hd⟩ ?_;have nd := JB _ b1;have hlen : ord.length = l.length := hP oS;have := Ns (ops := l.toArray) (hs := hs) (by simpa [rK, List.isEmpty_iff] using vE) ord cF (Array.replicate l.length false) R s g1 (by simpa using g2) (fun q an => by have := ey q an; simp [Nat.blt_eq] at this; simp [this]) (fun q an _ => b2 q (by simpa using an)) nd (fun k o ae => by exfalso; rcases jt k l.length with q | q <;> simp [Array.getElem?_replicate, q] at ae) ok dQ h;rw [g1, hlen] at this;simpa using this
theorem dU (ord : List Nat) {id : Nat} {l cF : List Oper} (fG : J2 l ord [] = true) (hm : P.follows .mixedOrders = true) (ap : getAll l ord = some cF)
    (h : cQ P l.toArray (some []) (fun R s => (wE l.toArray ord).all (mG s) = true ∧ Q .normal R s) cF R s) : fO P (.region id l.toArray true) Q R s := l5 ord [] fG hm ap h
theorem Nx {ro : Option Nat} {K : aL → aE → Prop} {Q : Exit → Act → World → Prop} (jF : ∀ aC s' a' w', s'.cU → pR bq b0 aC s' a' w' → K aC s' → Q .normal a' w') : ∀ (l : List Oper) (k : Nat) (R : aL) (s : aE) (a : Act) (w : World), (∀ (j : Nat), l[j]? = ops[k + j]?) → s.cU → pR bq b0 R s a w →
    cQ P ops dr K l R s → wpOpsIn (mK ro) 0 P ops Q ((List.range l.length).map (k + ·)) a w
  | [], _, _, _, _, _, _, ok, ay, h => jF _ _ _ _ ok ay h
  | o :: l, k, R, s, a, w, ap, ok, ay, h => by
    have aJ : ops[k]? = some o := by simpa using (ap 0).symm
    have e : (List.range (o :: l).length).map (k + ·) = k :: (List.range l.length).map (k + 1 + ·) := by
      rw [lB, List.range_succ_eq_map, k5, List.map_map];congr 1;apply oD;intro j _;simp [Nat.add_assoc, Nat.add_comm 1 j]
    rw [e, wpOpsIn_cons];refine Nz aJ ok ay h fun aC s' a' w' dz cE ae => Nx jF l (k + 1) aC s' a' w' (fun j => by have := ap (j + 1); simpa [Nat.add_assoc, Nat.add_comm 1 j] using this) dz cE ae
theorem a8 {id : Nat} {l : List Oper} (h : cQ P l.toArray none (Q .normal) l R s) : fO P (.region id l.toArray false) Q R s := by
  intro ok bq b0 a w ay;refine SI fun ro => ?_;have := Nx (ro := ro) (ops := l.toArray) (K := Q .normal) (Q := fun e a' w' => ∃ aC s', s'.cU ∧ pR bq b0 aC s' a' w' ∧ Q e aC s') (fun aC s' a' w' dz cE ae => ⟨aC, s', dz, cE, ae⟩) l 0 R s a w (by simp) ok ay h;simpa using this
def Bs (next : aL → aE → Prop) (Q : Exit → aL → aE → Prop) : Exit → aL → aE → Prop
  | .normal, R, s => next R s
  | e, R, s => Q e R s
def yz (id : Nat) (Q : Exit → aL → aE → Prop) : Exit → aL → aE → Prop
  | .exit qu, R, s => bif Nat.beq qu id then Q .normal R s else Q (.exit qu) R s
  | e, R, s => Q e R s
theorem bb (h : fO P x (Bs (fun R s => fO P y Q R s) Q) R s) : fO P (.seq x y) Q R s := by
  intro ok bq b0 a w cA;refine SL (tC (h ok bq b0 a w cA) ?_);rintro x a' w' ⟨aC, s', dz, mQ, an⟩;cases x <;> first | exact an dz bq b0 a' w' mQ | exact ⟨aC, s', dz, mQ, an⟩
theorem dc (h : Q .normal R s) : fO P .skip Q R s := fun ok bq b0 a w ay => SM ⟨R, s, ok, ay, h⟩
theorem jS {id : Nat} (h : Q (.exit id) R s) : fO P (.exit id) Q R s := fun ok bq b0 a w ay => SG ⟨R, s, ok, ay, h⟩
theorem dM (h : Q .ret R s) : fO P .ret Q R s := fun ok bq b0 a w ay => SK ⟨R, s, ok, ay, h⟩
theorem fu {id : Nat} (h : fO P x (yz id Q) R s) : fO P (.block id x) Q R s := by
  intro ok bq b0 a w cA;refine SE (tC (h ok bq b0 a w cA) ?_);rintro x a' w' ⟨aC, s', dz, mQ, an⟩;cases x with
  | exit qu =>
    simp only [Exit.inBlock];simp only [yz] at an;cases ab : Nat.beq qu id with
    | true => rw [ab] at an; rw [if_pos (hP ab)]; exact ⟨aC, s', dz, mQ, an⟩
    | false =>
      rw [ab] at an;have : qu ≠ id := fun e => by subst e; rw [Nat.beq_refl] at ab; cases ab
      rw [if_neg this]; exact ⟨aC, s', dz, mQ, an⟩
  | _ => exact ⟨aC, s', dz, mQ, an⟩
theorem RZ {c : Operand} {b : Bool} (ak : s.look c = some (bG b)) (h1 : b = true → fO P x Q R s) (aJ : b = false → fO P y Q R s) : fO P (.cond c x y) Q R s := by
  rintro ok bq b0 a w ⟨A, ad, ay⟩;have hv : a.eval c = .bool b := (ay.rel.look ak).1;refine SF hv ?_;cases b with
  | true => exact h1 rfl ok bq b0 a w ⟨A, ad, ay⟩
  | false => exact aJ rfl ok bq b0 a w ⟨A, ad, ay⟩
theorem eo {c : Operand} {b : Bool} (ak : s.look c = some (bG b)) (ab : b = true) (h1 : fO P x Q R s) : fO P (.cond c x y) Q R s := RZ ak (fun _ => h1) fun e => by rw [ab] at e; cases e
theorem c4 {c : Operand} {b : Bool} (ak : s.look c = some (bG b)) (ab : b = false) (aJ : fO P y Q R s) : fO P (.cond c x y) Q R s := RZ ak (fun e => by rw [ab] at e; cases e) fun _ => aJ
theorem k7 (N : Nat) (I : Nat → aL → List (Nat × ai) → List (Nat × List AC) → Prop) (k : Nat) (R0 : aL) (aS : List (Nat × ai)) (bw : List (Nat × List AC)) (bp : I k R0 aS bw) (ap : bL R0 R) (aD : N = s.n) (aF : oQ s.tmps aS) (hm : oQ s.mem bw) (dK : okB aS bw = true)
    (round : ∀ k R aS bw, I k R aS bw → okB aS bw = true → fO P x (Bs (fun aC s' => ∃ k' Cu pE pi, k' < k ∧ I k' Cu pE pi ∧ bL Cu aC ∧ N = s'.n ∧ oQ s'.tmps pE ∧ oQ s'.mem pi ∧ okB pE pi = true) Q) R (uO N aS bw)) : fO P (.loop x) Q R s := by
  rintro ok bq b0 a w ⟨A, ad, ay⟩;refine SH (fun k a w => ∃ R aS bw, I k R aS bw ∧ okB aS bw = true ∧ pR bq b0 R (uO N aS bw) a w) (n := k) ⟨R0, aS, bw, bp, dK, A, ad, (ay.le ap).Pj (EJ aD aF hm)⟩ ?_;rintro k a w ⟨R, aS, bw, bp, ok, cA⟩;refine tC (round k R aS bw bp ok (Jm ok) bq b0 a w cA) ?_;rintro x a' w' ⟨aC, s', dz, ⟨dW, bg, mQ⟩, an⟩;cases x with
  | normal =>
    obtain ⟨k', Cu, pE, pi, h1, h2, ao, aH, cM, fQ, j0⟩ := an;exact ⟨k', h1, Cu, pE, pi, h2, j0, dW, bg, (mQ.le ao).Pj (EJ aH cM fQ)⟩
  | _ => exact ⟨aC, s', dz, ⟨dW, bg, mQ⟩, an⟩
theorem vD {Q : Exit → aE → Prop} (h : fO P c (fun x aC s' => Q x s') gw s) : fN P c Q s := by
  intro ok B A ad a w ay;have cA : eJ B A gw s a w A ad := ⟨ay.up, fun _ h => h, ay.hot fun b h => ay.up b (lC ay.below.size h), fun k cs ae => (ay.dG k cs ae).choose_spec.choose_spec.2.2, ay.below, fun i r hi => (by cases hi), fun i j r q hi => (by cases hi), fun i r g hi => (by cases hi), ay.ku⟩;refine tC (h ok B A a w ⟨A, ad, cA⟩) ?_;rintro x a' w' ⟨aC, s', dz, ⟨jU, e1, h1⟩, an⟩;exact ⟨s', e1, dz, h1.rel.zh (fun b ab _ => ⟨h1.sub b ab, rfl⟩) (fun k cs ae => ⟨rfl, h1.pg k cs ae⟩) h1.below ay.up h1.ku, an⟩
theorem mF (i e sz : Nat) (hi : R i = none) (h : fO P c Q (bJ R i ⟨e, sz, .slice none 0 0, 0, []⟩) s) (b4 : 0 < sz := by decide) : fO P c Q R s := by
  rintro ok bq b0 a w ⟨A, ad, ay⟩;have fY : ∀ g, ¬ (⟨e, sz, .slice none 0 0, 0, []⟩ : bS).own g := fun g ax => by have := bS.pq ax b4; cases this
  refine h ok bq b0 a w ⟨A, ad, ay.up, ay.sub, ay.rel, ay.pg, ay.below, fun j r af => ?_, fun j k r q af ae lq g ax => ?_, fun j r g af ax => ?_, ay.ku⟩
  · by_cases bu : j = i
    · subst bu
      rw [cw] at af;cases af;exact ⟨.inl ⟨b4, [], World.ownsRow_nil w 0 e sz, rfl, fun i x v aa => by simp at aa⟩, fun y ag => (by cases ag), fun g ax => absurd ax (fY g)⟩
    · rw [cl _ _ bu] at af; exact ay.rows j r af
  · by_cases aG : j = i
    · subst aG; rw [cw] at af; cases af; exact absurd ax (fY g)
    · rw [cl _ _ aG] at af
      by_cases aM : k = i
      · subst aM; rw [cw] at ae; cases ae; exact fY g
      · rw [cl _ _ aM] at ae; exact ay.apart j k r q af ae lq g ax
  · by_cases aG : j = i
    · subst aG; rw [cw] at af; cases af; exact absurd ax (fY g)
    · rw [cl _ _ aG] at af; exact ay.hot j r g af ax
theorem Bu (i d : Nat) (r : bS) (hi : R i = some r) (hd : s.tmps d = some (aU r.v)) (h : fO P c Q (fun j => if j = i then none else R j) (s.put (some d) (cT r.sz r.n r.aZ))) (b4 : 0 < r.sz := by first | decide | exact jL _) : fO P c Q R s := by
  rintro ok bq b0 a w ⟨A, ad, ay⟩
  have gr : d < s.n := by
    obtain ⟨v, h1, _⟩ := ay.rel.hA d _ hd;rw [← ay.rel.size];exact (k4.1 h1).1
  obtain ⟨dW, sE⟩ := ay.vH i d r hi b4 hd gr;exact h (ok.put fun j af => absurd af (lY _ j)) bq b0 a w ⟨dW, ad, sE⟩
theorem aO {K : aL → aE → Prop} {rest : List Oper} (aF : ry dr s.look o = true) (h : bj P ops (fun s' => cQ P ops dr K rest R s') [o] s) : cQ P ops dr K (o :: rest) R s := by
  obtain ⟨b, hw, e, he, hd, ae⟩ := h;exact ⟨b, hw, hd, .inl ⟨e, .lh b e he aF, ae⟩⟩
theorem aX {K : aL → aE → Prop} (h : K R s) : cQ P ops dr K [] R s := h
theorem eD {K : aL → aE → Prop} {ik : List (Nat × Nat)} (hs : ik.all (mG s) = true) (h : K R s) : cQ P ops dr (fun R s => ik.all (mG s) = true ∧ K R s) [] R s := ⟨hs, h⟩
variable {d ty : Nat} {pos : String} {after : Array Edge} {guard : Option (Nat × Bool)} {K : aL → aE → Prop} {rest : List Oper}
theorem Au {op : Op} {av : ai} (hw : want ops ⟨some d, op, ty, pos, after, guard⟩ s = some true) (an : lc P R s.look ⟨some d, op, ty, pos, after, guard⟩ av) (ak : av.bd = true) (al : u5 ops dr (some d) = true) (hd : Nat.blt d s.n = true) (h : cQ P ops dr K rest R (s.put (some d) av)) : cQ P ops dr K (⟨some d, op, ty, pos, after, guard⟩ :: rest) R s :=
  ⟨true, hw, lj hd, .inl ⟨⟨av, none⟩, .read av an (ai.dI ak) al, h⟩⟩
theorem oj {x : Operand} {t z : Nat} {r : bS} (i : Nat) [S : iI P t z] (hi : R i = some r) (hw : want ops ⟨some d, .call ⟨.builtin .len, #[x], #[t]⟩, ty, pos, after, guard⟩ s = some true) (aa : s.look x = some (aU r.v)) (b4 : Nat.blt 0 r.sz = true) (al : u5 ops dr (some d) = true) (hd : Nat.blt d s.n = true) (h : cQ P ops dr K rest R (s.put (some d) (aR r.n))) : cQ P ops dr K (⟨some d, .call ⟨.builtin .len, #[x], #[t]⟩, ty, pos, after, guard⟩ :: rest) R s :=
  Au hw (.len i r t z x hi (by simpa [Nat.blt_eq] using b4) rfl aa S.h) rfl al hd h
theorem j9 {x y : Operand} {t z : Nat} {r : bS} {ho : IntKind} {j : Int} (i : Nat) [S : iI P t z] (hi : R i = some r) (hw : want ops ⟨some d, .indexAddr t x y, ty, pos, after, guard⟩ s = some true) (aa : s.look x = some (aU r.v)) (ag : s.look y = some (aU (.int ho j))) (aJ : 0 ≤ j) (h1 : j < r.n) (a6 : z = r.sz) (al : u5 ops dr (some d) = true) (hd : Nat.blt d s.n = true) (h : cQ P ops dr K rest R (s.put (some d) (aU (jQ r.v (j.toNat * z))))) : cQ P ops dr K (⟨some d, .indexAddr t x y, ty, pos, after, guard⟩ :: rest) R s := by
  subst a6;exact Au hw (.idx i r t x y ho j hi rfl aa ag aJ h1 S.h) rfl al hd h
theorem ol {x : Operand} {lt n off : Nat} {r : bS} {zs : List AC} (i : Nat) [T : gn P lt true n] (hi : R i = some r) (hw : want ops ⟨some d, .load lt x, ty, pos, after, guard⟩ s = some true) (aa : s.look x = some (aU (jQ r.v off))) (aD : 0 < r.n) (a6 : off + n ≤ r.aZ.length ∧ (r.aZ.drop off).take n = zs) (ak : (ai.w (.agg zs)).bd = true) (al : u5 ops dr (some d) = true) (hd : Nat.blt d s.n = true) (h : cQ P ops dr K rest R (s.put (some d) (.w (.agg zs)))) : cQ P ops dr K (⟨some d, .load lt x, ty, pos, after, guard⟩ :: rest) R s :=
  Au hw (.load i r off lt x _ hi aD rfl aa (by
    have ee := T.h;unfold kI at ee;unfold pick;rw [← a6.2];cases hu : P.underlying lt with
    | none => rw [hu] at ee; cases ee
    | some D =>
      cases gi : P.info? lt with
      | none => rw [hu, gi] at ee; cases D <;> cases ee
      | some eP =>
        rw [hu, gi] at ee;cases D <;> simp at ee <;> (subst ee; simp [a6.1]))) ak al hd h
theorem oi {tt bytes m : Nat} {r : bS} {jT kj : Operand} {news : List AC} (i : Nat) (hi : R i = some r) [T : nu P tt r.e r.sz bytes] (hw : want ops ⟨some d, .call ⟨.builtin .append, #[jT, kj], #[tt, tt]⟩, ty, pos, after, guard⟩ s = some true) (aa : s.look jT = some (aU r.v)) (ag : s.look kj = some (cT r.sz m news)) (h1 : r.n + m ≤ maxLen) (h2 : (r.n + m) * bytes ≤ 140737488355328) (ak : news.all AC.bd = true) (hd : Nat.blt d s.n = true)
    (h : ∀ a7, a7.oneCell' = true → cQ P ops dr K rest (bJ R i ⟨r.e, r.sz, a7, r.n + m, r.aZ ++ news⟩) (s.put (some d) (aU a7))) (qj : su dr ⟨some d, .call ⟨.builtin .append, #[jT, kj], #[tt, tt]⟩, ty, pos, after, guard⟩ = false := by exact rfl) : cQ P ops dr K (⟨some d, .call ⟨.builtin .append, #[jT, kj], #[tt, tt]⟩, ty, pos, after, guard⟩ :: rest) R s :=
  ⟨true, hw, lj hd, .inr (.inl ⟨rfl, d, _, _, rfl, ⟨.vA i r tt bytes m jT kj news hi rfl T.h aa ag h1 h2 (cB.1 ak), qj⟩, h⟩)⟩
theorem Og {tt bytes m k : Nat} {r : bS} {jT kj : Operand} {news zs : List AC} (i : Nat) (hi : R i = some r) [T : nu P tt r.e r.sz bytes] (hw : want ops ⟨some d, .call ⟨.builtin .append, #[jT, kj], #[tt, tt]⟩, ty, pos, after, guard⟩ s = some true) (aa : s.look jT = some (aU r.v)) (ag : s.look kj = some (cT r.sz m news)) (h1 : r.n + m ≤ maxLen) (h2 : (r.n + m) * bytes ≤ 140737488355328) (ae : r.n + m = k) (a6 : r.aZ ++ news = zs) (ak : news.all AC.bd = true) (hd : Nat.blt d s.n = true)
    (h : cQ P ops none K rest (fun j => if j = i then none else R j) (s.put (some d) (cT r.sz k zs))) : cQ P ops none K (⟨some d, .call ⟨.builtin .append, #[jT, kj], #[tt, tt]⟩, ty, pos, after, guard⟩ :: rest) R s := by
  subst ae a6;refine ⟨true, hw, lj hd, .inr (.inr (.inr (.inl ⟨rfl, rfl, d, _, i, fun a7 => ⟨r.e, r.sz, a7, r.n + m, r.aZ ++ news⟩, rfl, .vA i r tt bytes m jT kj news hi rfl T.h aa ag h1 h2 (cB.1 ak), fun a7 => ⟨cw _ _ _, rfl, (rP T.h).choose_spec.choose_spec.2.2.2.2.2.2⟩, fun a7 hv => ?_⟩)))⟩
  have : (fun j => if j = i then none else bJ R i ⟨r.e, r.sz, a7, r.n + m, r.aZ ++ news⟩ j) = fun j => if j = i then none else R j := by
    funext j
    by_cases e : j = i
    · rw [if_pos e, if_pos e]
    · rw [if_neg e, if_neg e, cl _ _ e]
  rw [this];exact h
theorem Ok {t e sz bytes : Nat} {vs : List Value} (i : Nat) (hi : R i = none) [T : nu P t e sz bytes] [Z : nX P t vs] (hw : want ops ⟨some d, .buildSlice t 0 #[], ty, pos, after, guard⟩ s = some true)
    (h1 : (vs.all fun v => v.oneCell') = true) (hs : Nat.beq vs.length sz = true) (hd : Nat.blt d s.n = true)
    (h : ∀ a7, a7.oneCell' = true → cQ P ops dr K rest (bJ R i ⟨e, sz, a7, 0, []⟩) (s.put (some d) (aU a7))) (qj : su dr ⟨some d, .buildSlice t 0 #[], ty, pos, after, guard⟩ = false := by exact rfl) : cQ P ops dr K (⟨some d, .buildSlice t 0 #[], ty, pos, after, guard⟩ :: rest) R s :=
  ⟨true, hw, lj hd, .inr (.inl ⟨rfl, d, _, _, rfl, ⟨.new i t 0 e sz bytes [] vs [] [] hi rfl T.h Z.h rfl (by simp [ir, q7]) h1 (hP hs) (by simp) (eF _) (by simp) (fun y ag => by cases ag), qj⟩, h⟩)⟩
theorem As {t l c' e sz bytes : Nat} {x y : Operand} {pd qv : IntKind} {vs : List Value} (i : Nat) (hi : R i = none) [T : nu P t e sz bytes] [Z : nX P t vs] (hw : want ops ⟨some d, .makeSlice t x y, ty, pos, after, guard⟩ s = some true) (aa : s.look x = some (aU (.int pd l))) (ag : s.look y = some (aU (.int qv c'))) (ap : l ≤ c')
    (h1 : (vs.all fun v => v.oneCell') = true) (hs : Nat.beq vs.length sz = true) (h2 : bytes * c' ≤ 281474976710656) (ao : c' ≤ maxLen) (hd : Nat.blt d s.n = true)
    (h : ∀ a7, a7.oneCell' = true → cQ P ops dr K rest (bJ R i ⟨e, sz, a7, l, ir l sz vs⟩) (s.put (some d) (aU a7))) (qj : su dr ⟨some d, .makeSlice t x y, ty, pos, after, guard⟩ = false := by exact rfl) : cQ P ops dr K (⟨some d, .makeSlice t x y, ty, pos, after, guard⟩ :: rest) R s :=
  ⟨true, hw, lj hd, .inr (.inl ⟨rfl, d, _, _, rfl, ⟨.make i t l c' e sz bytes x y pd qv vs hi rfl T.h Z.h aa ag ap h1 (hP hs) h2 ao, qj⟩, h⟩)⟩
theorem Z2 {tt t2 m z k : Nat} {r : bS} {x y : Operand} {news zs : List AC} (i : Nat) [S : iI P tt z] (hi : R i = some r) (hw : want ops ⟨some d, .call ⟨.builtin .copy, #[x, y], #[tt, t2]⟩, ty, pos, after, guard⟩ s = some true) (aa : s.look x = some (aU r.v)) (ag : s.look y = some (cT z m news)) (a6 : z = r.sz) (b4 : Nat.blt 0 r.sz = true) (ak : news.all AC.bd = true) (hd : Nat.blt d s.n = true) (ae : Nat.min m r.n = k) (he : eO r.aZ 0 (news.take (k * r.sz)) = zs) (qj : su dr ⟨some d, .call ⟨.builtin .copy, #[x, y], #[tt, t2]⟩, ty, pos, after, guard⟩ = false)
    (h : cQ P ops dr K rest (bJ R i ⟨r.e, r.sz, r.v, r.n, zs⟩) (s.put (some d) (aR (k : Int)))) : cQ P ops dr K (⟨some d, .call ⟨.builtin .copy, #[x, y], #[tt, t2]⟩, ty, pos, after, guard⟩ :: rest) R s := by
  subst a6 ae he;refine ⟨true, hw, lj hd, .inr (.inl ⟨rfl, d, _, _, rfl, ⟨.copy i r tt t2 m 0 r.n x y news hi (by simpa [Nat.blt_eq] using b4) rfl S.h (.inl ⟨aa, rfl, rfl⟩) (.inl ag) (eF _) (eb _) (cB.1 ak), qj⟩, fun a7 hv => ?_⟩)⟩;subst hv;simpa using h
theorem Oh {tt t2 m z k lo hi : Nat} {u : Value} {r : bS} {x y : Operand} {news zs : List AC} (i : Nat) [S : iI P tt z] (c3 : R i = some r) (hw : want ops ⟨some d, .call ⟨.builtin .copy, #[x, y], #[tt, t2]⟩, ty, pos, after, guard⟩ s = some true) (aa : s.look x = some (aU u)) (hu : jf r.v r.sz lo hi u) (ag : s.look y = some (cT z m news)) (a6 : z = r.sz) (b4 : Nat.blt 0 r.sz = true) (h1 : lo ≤ hi) (h2 : hi ≤ r.n) (ak : news.all AC.bd = true) (hd : Nat.blt d s.n = true) (ae : Nat.min m (hi - lo) = k) (he : eO r.aZ (lo * r.sz) (news.take (k * r.sz)) = zs) (qj : su dr ⟨some d, .call ⟨.builtin .copy, #[x, y], #[tt, t2]⟩, ty, pos, after, guard⟩ = false)
    (h : cQ P ops dr K rest (bJ R i ⟨r.e, r.sz, r.v, r.n, zs⟩) (s.put (some d) (aR (k : Int)))) : cQ P ops dr K (⟨some d, .call ⟨.builtin .copy, #[x, y], #[tt, t2]⟩, ty, pos, after, guard⟩ :: rest) R s := by
  subst a6 ae he;exact ⟨true, hw, lj hd, .inr (.inl ⟨rfl, d, _, _, rfl, ⟨.copy i r tt t2 m lo hi x y news c3 (by simpa [Nat.blt_eq] using b4) rfl S.h (.inr (.inr ⟨u, aa, hu⟩)) (.inl ag) h1 h2 (cB.1 ak), qj⟩, fun a7 hv => by subst hv; exact h⟩)⟩
theorem Z3 {tt t2 m z k lo hi eA ef : Nat} {u cC : Value} {r : bS} {x y : Operand} {zs : List AC} (i : Nat) [S : iI P tt z] (c3 : R i = some r) (hw : want ops ⟨some d, .call ⟨.builtin .copy, #[x, y], #[tt, t2]⟩, ty, pos, after, guard⟩ s = some true) (aa : s.look x = some (aU u)) (hu : jf r.v r.sz lo hi u) (ag : s.look y = some (aU cC)) (aae : jf r.v r.sz eA ef cC) (hm : eA + m = ef) (b7 : ef ≤ r.n) (a6 : z = r.sz) (b4 : Nat.blt 0 r.sz = true) (h1 : lo ≤ hi) (h2 : hi ≤ r.n) (ak : r.aZ.all AC.bd = true) (hd : Nat.blt d s.n = true) (ae : Nat.min m (hi - lo) = k) (he : eO r.aZ (lo * r.sz) (((r.aZ.drop (eA * r.sz)).take (m * r.sz)).take (k * r.sz)) = zs) (qj : su dr ⟨some d, .call ⟨.builtin .copy, #[x, y], #[tt, t2]⟩, ty, pos, after, guard⟩ = false)
    (h : cQ P ops dr K rest (bJ R i ⟨r.e, r.sz, r.v, r.n, zs⟩) (s.put (some d) (aR (k : Int)))) : cQ P ops dr K (⟨some d, .call ⟨.builtin .copy, #[x, y], #[tt, t2]⟩, ty, pos, after, guard⟩ :: rest) R s := by
  subst hm a6 ae he;exact ⟨true, hw, lj hd, .inr (.inl ⟨rfl, d, _, _, rfl, ⟨.copy i r tt t2 m lo hi x y _ c3 (by simpa [Nat.blt_eq] using b4) rfl S.h (.inr (.inr ⟨u, aa, hu⟩)) (.inr ⟨i, r, eA, cC, c3, rfl, ag, aae, b7, rfl⟩) h1 h2 (fun q an => cB.1 ak q (nN (py an))), qj⟩, fun a7 hv => by subst hv; exact h⟩)⟩
theorem Av {x y : Operand} {st off : Nat} {r : bS} {z : bK} {eP : TypeInfo} (i : Nat) (hi : R i = some r) (hw : want ops ⟨none, .store st x y, ty, pos, after, guard⟩ s = some true) (aa : s.look x = some (aU (jQ r.v off))) (ag : s.look y = some (.w z)) (aD : 0 < r.n) (aF : P.info? st = some eP) (hs : eP.size = z.cells.length) (ab : off + z.cells.length ≤ r.aZ.length) (ak : z.cells.all AC.bd = true)
    (h : cQ P ops dr K rest (bJ R i ⟨r.e, r.sz, r.v, r.n, eO r.aZ off z.cells⟩) s) (jn : Sd dr ⟨none, .store st x y, ty, pos, after, guard⟩ = true := by exact rfl) : cQ P ops dr K (⟨none, .store st x y, ty, pos, after, guard⟩ :: rest) R s :=
  ⟨true, hw, (fun d hd => by cases hd), .inr (.inr (.inl ⟨rfl, jn, _, rfl, .store i r off st x y z eP hi aD rfl aa ag aF hs ab (cB.1 ak), h⟩))⟩
theorem Ar {x : Operand} {lt off : Nat} {r : bS} {c1 : AC} (i : Nat) [T : gn P lt false 1] (hi : R i = some r) (hw : want ops ⟨some d, .load lt x, ty, pos, after, guard⟩ s = some true) (aa : s.look x = some (aU (jQ r.v off))) (aD : 0 < r.n) (a6 : r.aZ[off]? = some c1) (ak : (ai.w (.one c1)).bd = true) (al : u5 ops dr (some d) = true) (hd : Nat.blt d s.n = true) (h : cQ P ops dr K rest R (s.put (some d) (.w (.one c1)))) : cQ P ops dr K (⟨some d, .load lt x, ty, pos, after, guard⟩ :: rest) R s :=
  Au hw (.load i r off lt x _ hi aD rfl aa (by
    have ee := T.h;unfold kI at ee;unfold pick;cases hu : P.underlying lt with
    | none => rw [hu] at ee; cases ee
    | some D =>
      cases gi : P.info? lt with
      | none => rw [hu, gi] at ee; cases D <;> simp at ee <;> simp [a6]
      | some eP =>
        rw [hu, gi] at ee;cases D <;> simp at ee <;> simp [a6])) ak al hd h
theorem aV {next : aL → aE → Prop} (h : next R s) : Bs next Q .normal R s := h
theorem jR {next : aL → aE → Prop} {i : Nat} (h : Q (.exit i) R s) : Bs next Q (.exit i) R s := h
theorem kH {next : aL → aE → Prop} (h : Q .ret R s) : Bs next Q .ret R s := h
theorem kg {i : Nat} (h : Q .normal R s) : yz i Q .normal R s := h
theorem aff {i : Nat} (h : Q .ret R s) : yz i Q .ret R s := h
theorem jN {i : Nat} (h : Q .normal R s) : yz i Q (.exit i) R s := by simp only [yz, Nat.beq_refl, cond_true]; exact h
end
section
variable {P : Program} {s : aE} {ops : Array Oper} {K : aE → Prop} {rest : List Oper} {ty : Nat} {pos : String} {after : Array Edge} {guard : Option (Nat × Bool)} {d : Nat}
theorem U2 {fn : Fn} {xs : List Operand} {cs : List AC} (hw : want ops ⟨some d, .makeFunc fn #[] xs.toArray, ty, pos, after, guard⟩ s = some true) (aa : xs.map s.look = cs.map fun x => some (.w (.one x))) (ak : cs.all AC.bd = true) (hd : Nat.blt d s.n = true) (h : bj P ops K rest (s.put (some d) (.w (.one (.p (pK fn cs)))))) : bj P ops K (⟨some d, .makeFunc fn #[] xs.toArray, ty, pos, after, guard⟩ :: rest) s := by
 have hlen : xs.length = cs.length := by have := congrArg List.length aa; simpa using this
 have fq : ∀ (i : Nat) (z : Operand), xs[i]? = some z → ∃ x, cs[i]? = some x ∧ s.look z = some (.w (.one x)) := fun i z a6 => by
  have h1 : (xs.map s.look)[i]? = some (s.look z) := by rw [eG, a6]; rfl
  rw [aa, eG] at h1;cases an : cs[i]? with
  | none => rw [an] at h1; cases h1
  | some x => rw [an] at h1; exact ⟨x, rfl, (mD h1).symm⟩
 refine gp (av := .w (.one (.p (pK fn cs)))) hw ⟨fun _ _ h => (by cases h), fun z a6 => ?_, fun U ad W env he => ⟨.func fn #[] (xs.map env).toArray, ?_, ?_⟩, fun j af => absurd af (lY _ j)⟩ hd h
 ·simp [Op.operands] at a6;obtain ⟨i, hi⟩ := kA a6;obtain ⟨x, _, h2⟩ := fq i z hi;exact ⟨_, h2⟩
 ·simp [execOp, Instr.makeFunc]
 ·have oa : ∀ (i : Nat) (x : AC) (u : Value), cs[i]? = some x → (xs.map env)[i]? = some u → gV U ad W x u := fun i x u ya hu => by
   rw [eG] at hu;cases a6 : xs[i]? with
   | none => rw [a6] at hu; cases hu
   | some z =>
    rw [a6] at hu;cases hu;obtain ⟨x', h1, h2⟩ := fq i z a6;rw [ya] at h1;cases h1;exact he z (by simp [Op.operands]; exact dL a6) _ h2
  have cW : ∀ x ∈ cs, ∀ j, ¬ x.owns j := fun x aa j => AC.dI (cB.1 ak x aa) j;refine ⟨⟨xs.map env, rfl, ⟨by simpa using hlen.symm, fun i x u ya hu => ?_⟩, cW⟩, ?_⟩
  ·have h1 := oa i x u ya hu;cases x with
   | c y => exact h1
   | own k o => exact absurd rfl (cW _ (dL ya) k)
   | p R => exact ⟨h1.1, fun _ _ => trivial⟩
  ·rintro b ⟨w4, e, i, x, u, ya, hu, ab⟩;have bu : xs.map env = w4 := by simpa using e
   subst bu;have h1 := oa i x u ya hu;cases x with
   | c y => cases ab
   | own k o => cases ab
   | p R => exact h1.2 b ab
end
def uh (s : aE) (k j : Nat) : Bool := !(Nat.beq j k) && (match s.mem j with | some ds => ds.all AC.bd | none => false)
def Dv (s : aE) (k : Nat) (cs : List AC) : Option ai → Option ai
 | some (.w (.one (.own j off))) => bif Nat.beq j k then some (.w (.one (.p (Gi (cs.drop off))))) else bif uh s k j then some (.w (.one (.own j off))) else none
 | some av => bif av.bd then some av else none
 | none => none
def oX (s : aE) (k : Nat) (cs : List AC) : aE := ⟨s.n, fun t => Dv s k cs (s.tmps t), fun j => bif uh s k j then s.mem j else none⟩
theorem Ht {s : aE} {k j : Nat} (h : uh s k j = true) : j ≠ k ∧ ∃ ds, s.mem j = some ds ∧ ds.all AC.bd = true := by
 unfold uh at h;simp only [eh, tf] at h;refine ⟨fun e => by subst e; simp at h, ?_⟩;cases hm : s.mem j with
 | none => rw [hm] at h; simp at h
 | some ds => rw [hm] at h; exact ⟨ds, rfl, h.2⟩
theorem XM {s : aE} {k : Nat} {cs : List AC} (ok : s.cU) : (oX s k cs).cU := by
 refine ⟨fun t av j aF af => ?_, fun i ds x j hi aa af => ?_⟩
 ·have key : ∀ o, Dv s k cs o = some av → ∃ ds, (oX s k cs).mem j = some ds := by
   intro o aB;unfold Dv at aB
   split at aB
   ·rename_i e0 off;cases ab : Nat.beq e0 k with
    | true => rw [ab] at aB; simp at aB; subst aB; obtain ⟨y, ag, af⟩ := af; simp [bK.cells] at ag; subst ag; cases af
    | false =>
     rw [ab] at aB;cases ae : uh s k e0 with
     | false => rw [ae] at aB; simp at aB
     | true =>
      rw [ae] at aB;simp at aB;subst aB;obtain ⟨y, ag, af⟩ := af;simp [bK.cells] at ag;subst ag;have e : j = e0 := af;subst e;obtain ⟨_, ds, hm, _⟩ := Ht ae;exact ⟨ds, by simp only [oX, ae, cond_true]; exact hm⟩
   ·rename_i LN _;cases ak : LN.bd with
    | false => rw [ak] at aB; simp at aB
    | true => rw [ak] at aB; simp at aB; subst aB; exact absurd af (ai.dI ak j)
   ·cases aB
  exact key _ aF
 ·simp only [oX] at hi;cases ae : uh s k i with
  | false => rw [ae] at hi; simp at hi
  | true =>
   rw [ae] at hi;simp at hi;obtain ⟨_, WT, hm, ak⟩ := Ht ae;rw [hm] at hi;cases hi;exact absurd af (AC.dI (cB.1 ak x aa) j)
theorem XN {s : aE} {k : Nat} {cs : List AC} {W : World} {A : Nat → Prop} {ad : Nat → Nat} {a : Act} {w : World} (ae : s.mem k = some cs) (cW : cs.all AC.bd = true) (ay : Rel (e8.all W) A s ad a w) : Rel (e8.all W) A (oX s k cs) ad a w := by
 have qm : ∀ j ds, (oX s k cs).mem j = some ds → j ≠ k ∧ s.mem j = some ds := fun j ds af => by
  simp only [oX] at af;cases ab : uh s k j with
  | false => rw [ab] at af; simp at af
  | true => rw [ab] at af; simp at af; exact ⟨(Ht ab).1, af⟩
 have j4 : ∀ b, s.free A ad b → (oX s k cs).free A ad b := fun b ab => ⟨ab.1, fun j ds af => ab.2 j ds (qm j ds af).2⟩;obtain ⟨vs, akF, g1, g2, g3⟩ := ay.dG k cs ae
 have Yq : A (ad k) := ay.up _ (by
  have : ¬ ad k < W.heap.size := g3;show W.heap.size ≤ ad k;omega)
 have bh : ad k < w.heap.size := ay.lt ae
 have Zj : (oX s k cs).free A ad (ad k) := ⟨Yq, fun j ds af e => by
  obtain ⟨h1, h2⟩ := qm j ds af;exact h1 (ay.inj j k _ _ h2 ae e)⟩
 have sG : ∀ y ∈ cs, y.bd = true := cB.1 cW;refine ⟨ay.qx, ay.size, fun t av aF => ?_, fun j ds af => ?_, fun j e0 c1 c2 h1 h2 e => ay.inj j e0 _ _ (qm j c1 h1).2 (qm e0 c2 h2).2 e, ay.below, ay.up, ay.ku⟩
 ·simp only [oX] at aF;cases aB : s.tmps t with
  | none => rw [aB] at aF; cases aF
  | some o =>
   rw [aB] at aF;obtain ⟨v, h1, h2⟩ := ay.hA t o aB;refine ⟨v, h1, ?_⟩;have ao : dn ((oX s k cs).free A ad) ad w o v := h2.map (fun b ab _ => ⟨j4 b ab, rfl⟩) fun _ _ => rfl;unfold Dv at aF
   split at aF
   ·rename_i e0 off sL;cases sL;cases ab : Nat.beq e0 k with
    | true =>
     rw [ab] at aF;simp at aF;subst aF;have e : e0 = k := hP ab;subst e;have hv : v = .pointer (some ⟨ad e0, off, none⟩) := h2;subst hv
     have re : lb w ⟨ad e0, off, none⟩ (cs.drop off) (vs.drop off) := by
      refine ⟨bh, ⟨by simp [g2.1], fun i x u aa hu => ?_⟩, fun i u hu => ?_, fun y ag => sG y (nN ag)⟩
      ·rw [gF] at aa hu;have cM := g2.2 _ x u aa hu;have YY := sG x (dL aa);cases x with
       | c y => exact cM
       | own k o => cases YY
       | p S => exact ⟨cM.1, fun _ _ => trivial⟩
      ·rw [gF] at hu;have kT : (⟨ad e0, off, none⟩ : Addr).add i = ⟨ad e0, off + i, none⟩ := by unfold Addr.add; split <;> simp_all
       rw [kT];simp only [World.cell?, g1];simpa using hu
     refine ⟨⟨_, _, rfl, re⟩, ?_⟩;rintro b ⟨a', e, aw⟩;cases e;rcases aw with rfl | ⟨i, y, u, ag, hu, gP⟩
     ·exact Zj
     ·rw [gF] at ag;have NY : off + i < vs.length := by rw [← g2.1]; exact (bP.1 ag).1
      have fQ := re.at_ i vs[off + i] (by rw [gF]; exact cj NY);rw [hu] at fQ;cases fQ;have j0 := g2.2 _ y _ ag (cj NY);cases y with
      | c y => cases gP
      | own k o => cases gP
      | p S => exact j4 b (j0.2 b gP)
    | false =>
     rw [ab] at aF;cases o4 : uh s k e0 with
     | false => rw [o4] at aF; simp at aF
     | true => rw [o4] at aF; simp at aF; subst aF; exact ao
   ·rename_i LN sL;cases sL;cases ak : ai.bd o with
    | false => rw [ak] at aF; simp at aF
    | true => rw [ak] at aF; simp at aF; subst aF; exact ao
   ·rename_i sL; cases sL
 ·obtain ⟨h1, h2⟩ := qm j ds af;obtain ⟨us, agZ, q1, q2, cr⟩ := ay.dG j ds h2;exact ⟨us, agZ, q1, q2.map (fun b ab _ => ⟨j4 b ab, rfl⟩) fun _ _ _ _ => rfl, cr⟩
section
variable {P : Program} {x y : Code} {Q : Exit → aE → Prop} {s : aE}
theorem GJ (h : fN P x Q s) : tF P x Q s := fun ok W A ad a w ay => (h ok (e8.all W) A ad a w ay).top
theorem LS (h : tF P x (so (fun s' => tF P y Q s') Q) s) : tF P (.seq x y) Q s := by
 intro ok W A ad a w ay;refine wp_seq (wp_mono (h ok W A ad a w ay) ?_);rintro e a' w' ⟨s', bg, dz, cE, an⟩;cases e <;> first | exact an dz W A bg a' w' cE | exact ⟨s', bg, dz, cE, an⟩
theorem LR (k : Nat) (cs : List AC) (ae : s.mem k = some cs) (cW : cs.all AC.bd = true) (h : tF P x Q (oX s k cs)) : tF P x Q s := by
 intro ok W A ad a w ay;exact h (XM ok) W A ad a w (XN ae cW ay)
end
def T4 (z n : Nat) (xs : List AC) : ff where
 holds w v := (cx z n xs).holds w v ∧ ∃ A, v = .slice A n n
 lS := (cx z n xs).lS
 frame w w' v := by
  rintro ⟨h1, h2⟩ aw;have := (cx z n xs).frame w w' v h1 aw;exact ⟨⟨this.1, h2⟩, this.2⟩
 iT w v b := by
  rintro ⟨h1, h2⟩ aw;exact (cx z n xs).iT w v b h1 aw
 cell w v := by
  rintro ⟨h1, h2⟩;exact (cx z n xs).cell w v h1
theorem ka {n : Nat} (h : n ≤ 1000000) : n ≤ maxLen := lC h (by decide)
abbrev FY (z n : Nat) (xs : List AC) : ai := .w (.one (.p (T4 z n xs)))
section
variable {P : Program} {U : Nat → Prop} {ad : Nat → Nat} {W bn : World}
theorem FG {z n l h c c' : Nat} {xs : List AC} {A : Option Addr} (aa : dn U ad W (cT z n xs) (.slice A n c)) (h1 : l ≤ h) (h2 : h ≤ n) (ao : h ≤ c') : dn U ad W (cT z (h - l) ((xs.drop (l * z)).take ((h - l) * z))) (sliced A l h c' z) := by
 obtain ⟨⟨dW, lO, aG, ak, ap, ej⟩, dJ⟩ := aa;cases aG;have hm : (h - l) * z ≤ n * z - l * z := by rw [← Nat.sub_mul]; exact kC _ (by omega)
 refine ⟨⟨if c' = l then A else A.map (·.add (l * z)), c' - l, rfl, by omega, by rw [eu, iC, ap]; exact qC hm, fun aD => ?_⟩, ?_⟩
 ·obtain ⟨a, vs, rfl, eL⟩ := ej (by omega);have ca : ¬ c' = l := by omega
  rw [if_neg ca];exact ⟨a.add (l * z), _, rfl, eL.sub (l * z) ((h - l) * z)⟩
 ·rintro b ⟨c2, a', q, aD, aw⟩;obtain ⟨a, vs, rfl, eL⟩ := ej (by omega);have ca : ¬ c' = l := by omega
  unfold sliced at q;rw [if_neg ca] at q;simp at q;obtain ⟨rfl, _⟩ := q;exact dJ b ⟨c, a, rfl, by omega, nz.sub (off := l * z) (n := (h - l) * z) aw⟩
theorem Nd {z n c : Nat} {xs : List AC} {vs : List Value} {cur : Array Value} {e : TypeId} (ap : b3 U id W xs vs) (cW : ∀ y ∈ xs, y.bd = true) (hlen : xs.length = n * z) (eX : n ≤ c) (hold : ∀ b, b < W.heap.size → bn.heap[b]? = W.heap[b]?) (qo : bn.heap[W.heap.size]? = some (.cells cur e (0, 0))) (Y7 : cur.toList.take (n * z) = vs) : dn (fun b => U b ∨ W.heap.size ≤ b) ad bn (cT z n xs) (.slice (some ⟨W.heap.size, 0, none⟩) n c) := by
 have bh : W.heap.size < bn.heap.size := (k4.1 qo).1;have fb : b3 U id bn xs vs := ap.map (fun b ab bh => ⟨ab, hold b bh⟩) (fun _ _ _ _ => rfl)
 have fq : ∀ (j : Nat) v, vs[j]? = some v → bn.cell? ((⟨W.heap.size, 0, none⟩ : Addr).add j) = some v := fun j v hv => by
  have kT : (⟨W.heap.size, 0, none⟩ : Addr).add j = ⟨W.heap.size, j, none⟩ := by unfold Addr.add; split <;> simp_all
  rw [kT, cell_of_row bn _ j cur e (0, 0) qo];rw [← Y7, List.getElem?_take] at hv
  split at hv
  ·simpa using hv
  ·cases hv
 have re : lb bn ⟨W.heap.size, 0, none⟩ xs vs := ⟨bh, fb.map (fun b _ _ => ⟨trivial, rfl⟩) (fun _ _ _ _ => rfl), fq, cW⟩;refine ⟨⟨some ⟨W.heap.size, 0, none⟩, c, rfl, eX, hlen, fun aD => ⟨_, vs, rfl, re⟩⟩, ?_⟩;rintro b ⟨c', a', q, aD, aw⟩;cases q;rcases aw with rfl | ⟨j, y, v, ag, hv, gP⟩
 ·exact .inr (eb _)
 ·have af : j < vs.length := by rw [← ap.1]; exact (bP.1 ag).1
  have h2 := fq j _ (cj af);rw [hv] at h2;cases h2;have ao := fb.2 j y _ ag (cj af);cases y with
  | c u => cases gP
  | own k o => cases gP
  | p S => exact .inl (ao.2 b gP)
theorem afM {xs : List AC} {vs : List Value} (h : b3 U ad W xs vs) (ak : ∀ y ∈ xs, y.bd = true) : b3 U id W xs vs :=
 ⟨h.1, fun i x v aa hv => (h.2 i x v aa hv).map (fun b ab _ => ⟨ab, rfl⟩) fun j af => absurd af (AC.dI (ak x (dL aa)) j)⟩
theorem afL {xs aZ : List AC} {us vs : List Value} (h1 : b3 U ad W xs us) (h2 : b3 U ad W aZ vs) : b3 U ad W (xs ++ aZ) (us ++ vs) := by
 refine ⟨by rw [cX, cX, h1.1, h2.1], fun i x v aa hv => ?_⟩;rcases jt i xs.length with bh | ix
 ·rw [gG bh] at aa;rw [gG (by rw [← h1.1]; exact bh)] at hv;exact h1.2 i x v aa hv
 ·rw [gf ix] at aa;rw [gf (by rw [← h1.1]; exact ix), ← h1.1] at hv;exact h2.2 _ x v aa hv
theorem yH {z n : Nat} {xs : List AC} {v : Value} (h : dn U ad W (cT z n xs) v) : ∃ A c vs, v = .slice A n c ∧ n ≤ c ∧ xs.length = n * z ∧ b3 U id W xs vs ∧ (∀ y ∈ xs, y.bd = true) ∧ (∀ b, A = some b → ∀ (j : Nat) u, vs[j]? = some u → W.cell? (b.add j) = some u) ∧ (A = none → n = 0) := by
 rcases u3 n with rfl | aD
 ·obtain ⟨⟨A, c, e, ak, ap, ej⟩, dJ⟩ := h;have : xs = [] := mE (by rw [ap]; simp);subst this;exact ⟨A, c, [], e, ak, ap, ⟨rfl, fun i x v aa => by simp at aa⟩, fun y ag => (by cases ag), fun b _ j u hu => by simp at hu, fun _ => rfl⟩
 ·have aJ := h;obtain ⟨b, c, vs, e, ak, ap, fq, qq⟩ := cx.GV h aD;obtain ⟨⟨A, c', bu, _, _, ej⟩, _⟩ := aJ;rw [e] at bu;cases bu;obtain ⟨a, us, iM, eL⟩ := ej aD;exact ⟨some b, c, vs, e, ak, ap, afM qq eL.p5, eL.p5, fun bR e => by cases e; exact fq, fun e => by cases e⟩
theorem afR {tt e z n m bytes ty : Nat} {xs aZ : List AC} {x y : Value} (aF : wN P tt e z bytes = true) (aa : dn U ad W (FY z n xs) x) (ag : dn U ad W (cT z m aZ) y) (h1 : n + m ≤ maxLen) (h2 : (n + m) * bytes ≤ 140737488355328) :
  ∃ v bn, (Builtin.append_ #[tt, tt] ty #[x, y]).run P W = .ok v bn ∧ dn (fun b => U b ∨ W.heap.size ≤ b) ad bn (cT z (n + m) (xs ++ aZ)) v ∧ Below W.heap.size W bn := by
 obtain ⟨eP, KE, hu, fj, a6, hY, lp, pa, b4⟩ := rP aF;have kY : dn U ad W (cT z n xs) x := ⟨aa.1.1, aa.2⟩;obtain ⟨b0, MH⟩ := aa.1.2;obtain ⟨A, c, us, ex, eX, lr, Of, DJ, YQ, j5⟩ := yH kY;rw [MH] at ex;cases ex;obtain ⟨F4, Mv, vs, rfl, ai7, Aa, Ix, NL, NH, ZH⟩ := yH ag;subst MH;have HE : n + m ≤ 9223372036854775807 := by simp only [maxLen] at h1; omega
 rcases u3 m with rfl | D1
 ·have aar : aZ = [] := mE (by rw [Aa]; simp);subst aar;refine ⟨.slice b0 n n, W, ?_, ?_, Below.refl _ _⟩
  ·cases b0 <;> cases F4 <;> simp [Builtin.append_, run_underlying hu, sizeOf, typeInfo, fj, Builtin.lenOf, Builtin.firstCells, storeCells, loadCells, loadCellsFrom]
  ·rw [Nat.add_zero, qz];exact dn.map kY (fun b ab _ => ⟨.inl ab, rfl⟩) fun _ _ => rfl
 ·obtain ⟨a, rfl⟩ : ∃ a, F4 = some a := by
   cases F4 with
   | none => have := ZH rfl; omega
   | some a => exact ⟨a, rfl⟩
  have mX : vs.length = m * eP.size := by rw [hY, ← Ix.1]; exact Aa
  have cW : ∀ q ∈ xs ++ aZ, q.bd = true := fun q an => by
   rcases kD.1 an with h | h
   ·exact DJ q h
   ·exact NL q h
  have hlen : (xs ++ aZ).length = (n + m) * z := by rw [cX, lr, Aa, kB]
  cases b0 with
  | none =>
   have Af : n = 0 := j5 rfl;subst Af;have Ef : xs = [] := mE (by rw [lr]; simp);subst Ef;have al := run_append_nil (P := P) W tt ty e eP KE hu fj a6 a m Mv vs mX (NH a rfl) D1 (by omega) (by rw [lp]; simp only [ju] at h2; omega);refine ⟨_, _, al, ?_, (Below.drew (Below.refl _ W)).alloc (eb _) _⟩;have ZC : aZ.length = (0 + m) * z := by rw [Aa, ju]
   rw [List.nil_append];have dl : 0 + m = m := ju m;rw [dl];refine Nd (vs := vs) (e := e) Ix NL Aa (grownCap_ge _ _ _ _) (fun b ab => by first | exact heap_alloc_old W.drew _ b ab | exact heap_alloc_old W.drew _ ab) (heap_alloc_new W.drew _) ?_;rw [Array.toList_append, List.toList_toArray, Bk (by rw [mX, hY]; exact eb _), hQ (by rw [mX, hY]; exact eb _)]
  | some b =>
   have x7 : us.length = n * eP.size := by rw [hY, ← Of.1]; exact lr
   have al := run_append_grow (P := P) W tt ty e eP KE hu fj a6 b n n us x7 (YQ b rfl) a m Mv vs mX (NH a rfl) (by omega) (by omega) (growslice_fits (by omega) (by rw [lp]; exact h2));refine ⟨_, _, al, ?_, (Below.drew (Below.refl _ W)).alloc (eb _) _⟩;refine Nd (vs := us ++ vs) (e := e) (afL Of Ix) cW hlen (grownCap_ge _ _ _ _) (fun b ab => by first | exact heap_alloc_old W.drew _ b ab | exact heap_alloc_old W.drew _ ab) (heap_alloc_new W.drew _) ?_;have mT : (us ++ vs).length = (n + m) * z := by rw [cX, x7, mX, hY, kB]
   rw [Array.toList_append, Array.toList_append, List.toList_toArray, List.toList_toArray, Bk (by rw [mT]; exact eb _), hQ (by rw [mT]; exact eb _)]
end
section
variable {P : Program} {s : aE} {ops : Array Oper} {K : aE → Prop} {rest : List Oper} {ty : Nat} {pos : String} {after : Array Edge} {guard : Option (Nat × Bool)} {d : Nat}
theorem UD {tt e z n m k bytes : Nat} {x y : Operand} {xs aZ zs : List AC} [T : nu P tt e z bytes] (hw : want ops ⟨some d, .call ⟨.builtin .append, #[x, y], #[tt, tt]⟩, ty, pos, after, guard⟩ s = some true) (aa : s.look x = some (FY z n xs)) (ag : s.look y = some (cT z m aZ)) (h1 : n + m ≤ maxLen) (h2 : (n + m) * bytes ≤ 140737488355328) (ae : n + m = k) (a6 : xs ++ aZ = zs) (hd : Nat.blt d s.n = true) (h : bj P ops K rest (s.put (some d) (cT z k zs))) : bj P ops K (⟨some d, .call ⟨.builtin .append, #[x, y], #[tt, tt]⟩, ty, pos, after, guard⟩ :: rest) s := by
 subst ae a6;refine GB (av := cT z (n + m) (xs ++ aZ)) hw ⟨fun q an => ?_, fun j af => lY _ j af, fun U ad W env he => ?_⟩ hd h
 ·simp [Op.operands, Call.operands] at an;rcases an with rfl | rfl
  ·exact ⟨_, aa⟩
  ·exact ⟨_, ag⟩
 ·obtain ⟨v, bn, al, ao, aH⟩ := afR (ty := ty) T.h (he x (by simp [Op.operands, Call.operands]) _ aa) (he y (by simp [Op.operands, Call.operands]) _ ag) h1 h2;exact ⟨v, bn, by simp only [execOp, resolve, invoke, builtin, Sem.run_bind, Sem.run_pure, Result.andThen_ok, List.map_toArray, k5, List.map_nil, al], ao, aH⟩
theorem U5 {t sz e bytes : Nat} [S : iI P t sz] [T : nu P t e sz bytes] (hw : want ops ⟨some d, .buildSlice t 0 #[], ty, pos, after, guard⟩ s = some true) (hd : Nat.blt d s.n = true) (h : bj P ops K rest (s.put (some d) (FY sz 0 []))) : bj P ops K (⟨some d, .buildSlice t 0 #[], ty, pos, after, guard⟩ :: rest) s := by
 refine GB (av := FY sz 0 []) hw ⟨fun q an => ?_, fun j af => lY _ j af, fun U ad W env he => ?_⟩ hd h
 ·simp [Op.operands] at an
 ·obtain ⟨eP, KE, hu, fj, a6, hY, lp, pa, b4⟩ := rP T.h;refine ⟨.slice (some ⟨W.heap.size, 0, none⟩) 0 0, W.alloc (.cells #[] e), ?_, ⟨⟨⟨_, 0, rfl, eb _, by simp, fun h => absurd h (Nat.lt_irrefl _)⟩, _, rfl⟩, fun b ⟨c, a, q, aD, _⟩ => absurd aD (Nat.lt_irrefl _)⟩, (Below.refl _ _).alloc (eb _) _⟩;simp [execOp, Instr.buildSlice, Sem.run_bind, run_underlying hu, h5 fj, Instr.fill, newRow, newObj, Sem.run, Array.range_zero']
theorem LI {tt z n m : Nat} {x y : Operand} {l : Int} {xs aZ : List AC} [S : iI P tt z] (hw : want ops ⟨some d, .slice tt x (some y) none none, ty, pos, after, guard⟩ s = some true) (aa : s.look x = some (cT z n xs)) (ag : s.look y = some (aR l)) (aJ : 0 ≤ l) (h1 : l ≤ n) (hm : n - l.toNat = m) (he : (xs.drop (l.toNat * z)).take (m * z) = aZ) (hd : Nat.blt d s.n = true) (h : bj P ops K rest (s.put (some d) (cT z m aZ))) : bj P ops K (⟨some d, .slice tt x (some y) none none, ty, pos, after, guard⟩ :: rest) s := by
 subst hm he;refine gp (av := cT z (n - l.toNat) ((xs.drop (l.toNat * z)).take ((n - l.toNat) * z))) hw ⟨fun _ _ h => (by cases h), fun q an => ?_, fun U ad W env he => ?_, fun j af => absurd af (lY _ j)⟩ hd h
 ·simp [Op.operands] at an;rcases an with rfl | rfl
  ·exact ⟨_, aa⟩
  ·exact ⟨_, ag⟩
 ·have hv := he x (by simp [Op.operands]) _ aa;obtain ⟨A, c, us, ex, eX, _⟩ := yH hv;rw [ex] at hv;have kQ : env y = .int .i64 l := (he y (by simp [Op.operands]) _ ag).1;obtain ⟨bu, fS, hu, c3, hs⟩ := nj S.h;have fk : P.underlying tt = some (.slice (P.elem tt)) := by rw [kP hu]; exact hu
  refine ⟨_, ?_, FG (c' := c) hv (by omega) (by omega) (by omega)⟩;simp only [execOp, ex, hy, tj, kQ, Sem.run_bind, run_sliceAt_slice W tt _ _ _ _ fk, run_slice_l W tt A n c fk .i64 l aJ h1, kP hu, h5 c3, Result.andThen_ok, hs, Sem.run_pure]
theorem ahF {tt z n m : Nat} {x y u : Operand} {l r : Int} {xs aZ : List AC} [S : iI P tt z] (hw : want ops ⟨some d, .slice tt x (some y) (some u) none, ty, pos, after, guard⟩ s = some true) (aa : s.look x = some (cT z n xs)) (ag : s.look y = some (aR l)) (hu : s.look u = some (aR r)) (aJ : 0 ≤ l) (h1 : l ≤ r) (h2 : r ≤ n) (hm : r.toNat - l.toNat = m) (he : (xs.drop (l.toNat * z)).take (m * z) = aZ) (hd : Nat.blt d s.n = true) (h : bj P ops K rest (s.put (some d) (cT z m aZ))) : bj P ops K (⟨some d, .slice tt x (some y) (some u) none, ty, pos, after, guard⟩ :: rest) s := by
 subst hm he;refine gp (av := cT z (r.toNat - l.toNat) ((xs.drop (l.toNat * z)).take ((r.toNat - l.toNat) * z))) hw ⟨fun _ _ h => (by cases h), fun q an => ?_, fun U ad W env he => ?_, fun j af => absurd af (lY _ j)⟩ hd h
 ·simp [Op.operands] at an;rcases an with rfl | rfl | rfl
  ·exact ⟨_, aa⟩
  ·exact ⟨_, ag⟩
  ·exact ⟨_, hu⟩
 ·have hv := he x (by simp [Op.operands]) _ aa;obtain ⟨A, c, us, ex, eX, _⟩ := yH hv;rw [ex] at hv;have kQ : env y = .int .i64 l := (he y (by simp [Op.operands]) _ ag).1;have sy : env u = .int .i64 r := (he u (by simp [Op.operands]) _ hu).1;obtain ⟨bu, fS, hu, c3, hs⟩ := nj S.h;have fk : P.underlying tt = some (.slice (P.elem tt)) := by rw [kP hu]; exact hu
  refine ⟨_, ?_, FG (c' := c) hv (by omega) (by omega) (by omega)⟩;simp only [execOp, ex, hy, tj, kQ, sy, Sem.run_bind, run_sliceAt_slice W tt _ _ _ _ fk, run_slice_lh W tt A n c fk .i64 .i64 l r aJ h1 (by omega), kP hu, h5 c3, Result.andThen_ok, hs, Sem.run_pure]
theorem GD {tt z n m : Nat} {x y u : Operand} {r k : Int} {xs aZ : List AC} [S : iI P tt z] (hw : want ops ⟨some d, .slice tt x none (some y) (some u), ty, pos, after, guard⟩ s = some true) (aa : s.look x = some (cT z n xs)) (ag : s.look y = some (aR r)) (hu : s.look u = some (aR k)) (aJ : 0 ≤ r) (h1 : r ≤ k) (h2 : k ≤ n) (hm : r.toNat - 0 = m) (he : (xs.drop (0 * z)).take (m * z) = aZ) (hd : Nat.blt d s.n = true) (h : bj P ops K rest (s.put (some d) (cT z m aZ))) : bj P ops K (⟨some d, .slice tt x none (some y) (some u), ty, pos, after, guard⟩ :: rest) s := by
 subst hm he;refine gp (av := cT z (r.toNat - 0) ((xs.drop (0 * z)).take ((r.toNat - 0) * z))) hw ⟨fun _ _ h => (by cases h), fun q an => ?_, fun U ad W env he => ?_, fun j af => absurd af (lY _ j)⟩ hd h
 ·simp [Op.operands] at an;rcases an with rfl | rfl | rfl
  ·exact ⟨_, aa⟩
  ·exact ⟨_, ag⟩
  ·exact ⟨_, hu⟩
 ·have hv := he x (by simp [Op.operands]) _ aa;obtain ⟨A, c, us, ex, eX, _⟩ := yH hv;rw [ex] at hv;have kQ : env y = .int .i64 r := (he y (by simp [Op.operands]) _ ag).1;have sy : env u = .int .i64 k := (he u (by simp [Op.operands]) _ hu).1;obtain ⟨bu, fS, hu, c3, hs⟩ := nj S.h;have fk : P.underlying tt = some (.slice (P.elem tt)) := by rw [kP hu]; exact hu
  refine ⟨_, ?_, FG (c' := k.toNat) hv (by omega) (by omega) (by omega)⟩;simp only [execOp, ex, hy, tj, kQ, sy, Sem.run_bind, run_sliceAt_slice W tt _ _ _ _ fk, run_slice_hm W tt A n c fk .i64 .i64 r k aJ h1 (by omega), kP hu, h5 c3, Result.andThen_ok, hs, Sem.run_pure]
theorem GF {tt z n m : Nat} {x y u q : Operand} {l r k : Int} {xs aZ : List AC} [S : iI P tt z] (hw : want ops ⟨some d, .slice tt x (some y) (some u) (some q), ty, pos, after, guard⟩ s = some true) (aa : s.look x = some (cT z n xs)) (ag : s.look y = some (aR l)) (hu : s.look u = some (aR r)) (an : s.look q = some (aR k)) (aJ : 0 ≤ l) (h1 : l ≤ r) (h2 : r ≤ k) (ao : k ≤ n) (hm : r.toNat - l.toNat = m) (he : (xs.drop (l.toNat * z)).take (m * z) = aZ) (hd : Nat.blt d s.n = true) (h : bj P ops K rest (s.put (some d) (cT z m aZ))) : bj P ops K (⟨some d, .slice tt x (some y) (some u) (some q), ty, pos, after, guard⟩ :: rest) s := by
 subst hm he;refine gp (av := cT z (r.toNat - l.toNat) ((xs.drop (l.toNat * z)).take ((r.toNat - l.toNat) * z))) hw ⟨fun _ _ h => (by cases h), fun q an => ?_, fun U ad W env he => ?_, fun j af => absurd af (lY _ j)⟩ hd h
 ·simp [Op.operands] at an;rcases an with rfl | rfl | rfl | rfl
  ·exact ⟨_, aa⟩
  ·exact ⟨_, ag⟩
  ·exact ⟨_, hu⟩
  ·exact ⟨_, an⟩
 ·have hv := he x (by simp [Op.operands]) _ aa;obtain ⟨A, c, us, ex, eX, _⟩ := yH hv;rw [ex] at hv;have kQ : env y = .int .i64 l := (he y (by simp [Op.operands]) _ ag).1;have sy : env u = .int .i64 r := (he u (by simp [Op.operands]) _ hu).1;have eq : env q = .int .i64 k := (he q (by simp [Op.operands]) _ an).1;obtain ⟨bu, fS, hu, c3, hs⟩ := nj S.h;have fk : P.underlying tt = some (.slice (P.elem tt)) := by rw [kP hu]; exact hu
  refine ⟨_, ?_, FG (c' := k.toNat) hv (by omega) (by omega) (by omega)⟩;simp only [execOp, ex, hy, tj, kQ, sy, eq, Sem.run_bind, run_sliceAt_slice W tt _ _ _ _ fk, run_slice_lhm W tt A n c fk .i64 .i64 .i64 l r k aJ h1 h2 (by omega), kP hu, h5 c3, Result.andThen_ok, hs, Sem.run_pure]
end
def b8 : List (Int × Int) → List AC
 | [] => []
 | p :: l => .c (.int .i64 p.1) :: .c (.int .i64 p.2) :: b8 l
abbrev hR (l : List (Int × Int)) : ai := cT 2 l.length (b8 l)
theorem OQ : ∀ (l : List (Int × Int)) (i : Nat) (p : Int × Int), l[i]? = some p → ((b8 l).drop (i * 2)).take 2 = [.c (.int .i64 p.1), .c (.int .i64 p.2)]
 | [], i, p, h => by simp at h
 | q :: l, 0, p, h => by simp at h; subst h; simp [b8]
 | q :: l, i + 1, p, h => by
  have e : (i + 1) * 2 = i * 2 + 1 + 1 := by omega
  rw [e];simp only [b8, List.drop_succ_cons];exact OQ l i p (by simpa using h)
theorem uI {l : List (Int × Int)} {j : Int} {i : Nat} {x y : Int} (af : j = i) (h : l[i]? = some (x, y)) : ((b8 l).drop (j.toNat * 2)).take 2 = [.c (.int .i64 x), .c (.int .i64 y)] := by
 subst af;exact OQ l i (x, y) h
theorem ot : ∀ (l : List (Int × Int)), (b8 l).length = l.length * 2
 | [] => rfl
 | p :: l => by simp only [b8, lB, ot l]; omega
theorem sZ : ∀ (l m : List (Int × Int)), b8 (l ++ m) = b8 l ++ b8 m
 | [], _ => rfl
 | p :: l, m => by simp only [List.cons_append, b8, sZ l m]
theorem wx : ∀ (l : List (Int × Int)), (b8 l).all AC.bd = true
 | [] => rfl
 | p :: l => by simp only [b8, kF, wx l]; rfl
def cy (l : List Int) : List AC := l.map fun x => .c (.int .i64 x)
abbrev nP (l : List Int) : ai := cT 1 l.length (cy l)
theorem AG {l : List Int} {j : Int} {i : Nat} {x : Int} (af : j = i) (h : l[i]? = some x) : ((cy l).drop (j.toNat * 1)).take 1 = [.c (.int .i64 x)] := by
 subst af;have hi := (bP.1 h).1;rw [k6, Nat.mul_one, nL (by simpa [cy] using hi)];have : l[i] = x := (bP.1 h).2;simp [cy, this]
theorem Ej (l m : List Int) : cy (l ++ m) = cy l ++ cy m := by simp [cy]
instance ajp : nu Tryz.prog 51 3 1 8 := ⟨by kernel_rfl⟩
def zd (x y z w : Int) (fx fy : Bool) : Bool := if x < z then !fx else if z < x then fx else if y < w then !fy else decide (w < y) && fy
end Go.Proofs.YtpochbhajmbfdaaGreat
namespace Go.Proofs.YtpochbhajmbfdaaGreat
abbrev aq := Int × Int
def dN (fx fy : Bool) (p q : aq) : Bool := zd p.1 p.2 q.1 q.2 fx fy
theorem xk {fx fy : Bool} {p q : aq} : dN fx fy p q = true ↔ (if fx then q.1 < p.1 else p.1 < q.1) ∨ (p.1 = q.1 ∧ if fy then q.2 < p.2 else p.2 < q.2) := by
 unfold dN zd
 by_cases h1 : p.1 < q.1
 ·cases fx <;> simp [h1] <;> omega
 ·by_cases h2 : q.1 < p.1
  ·cases fx <;> simp [h1, h2] <;> omega
  ·have e : p.1 = q.1 := by omega
   by_cases ao : p.2 < q.2
   ·cases fx <;> cases fy <;> simp [h1, h2, ao, e] <;> omega
   ·cases fx <;> cases fy <;> simp [h1, h2, ao, e] <;> omega
theorem zb {fx fy : Bool} {p q r : aq} (h1 : dN fx fy p q = true) (h2 : dN fx fy q r = true) : dN fx fy p r = true := by
 rw [xk] at *;cases fx <;> cases fy <;> simp at * <;> omega
theorem Lw {fx fy : Bool} {p : aq} : dN fx fy p p = false := by
 cases h : dN fx fy p p with
 | false => rfl
 | true => rw [xk] at h; cases fx <;> cases fy <;> simp at h
theorem Lv {fx fy : Bool} {p q : aq} (h1 : dN fx fy p q = true) : dN fx fy q p = false := by
 cases h : dN fx fy q p with
 | false => rfl
 | true => have := zb h1 h; rw [Lw] at this; cases this
theorem Gy {fx fy : Bool} {p q : aq} (h : p ≠ q) : dN fx fy p q = true ∨ dN fx fy q p = true := by
 rw [xk, xk]
 have : p.1 ≠ q.1 ∨ p.2 ≠ q.2 := by
  by_cases h1 : p.1 = q.1
  ·exact .inr fun h2 => h (Prod.ext h1 h2)
  ·exact .inl h1
 cases fx <;> cases fy <;> simp <;> omega
def jd (fx fy : Bool) (l : List aq) : Prop := l.Pairwise fun p q => dN fx fy p q = true
theorem CJ {fx fy : Bool} : ∀ {l m : List aq}, jd fx fy l → jd fx fy m → l.Perm m → l = m
 | [], m, _, _, hp => by have := hp.nil_eq; exact this
 | p :: l, [], _, _, hp => by have := hp.length_eq; simp at this
 | p :: l, q :: m, ap, hm, hp => by
  have h1 := jv.1 ap;have h2 := jv.1 hm
  have e : p = q := by
   rcases gS.1 (hp.mem_iff.1 (k2 ..) : p ∈ q :: m) with h | h
   ·exact h
   ·rcases gS.1 (hp.mem_iff.2 (k2 ..) : q ∈ p :: l) with ar | ar
    ·exact ar.symm
    ·have a := h1.1 q ar;have b := h2.1 p h;rw [Lv a] at b; cases b
  subst e;rw [CJ h1.2 h2.2 (List.perm_cons p |>.1 hp)]
def mv (fx fy : Bool) (q : aq) : List aq → List aq
 | [] => [q]
 | p :: l => if dN fx fy q p then q :: p :: l else p :: mv fx fy q l
theorem AH (fx fy : Bool) (q : aq) : ∀ l, (mv fx fy q l).Perm (q :: l)
 | [] => .refl _
 | p :: l => by
  unfold mv
  split
  ·exact .refl _
  ·exact ((AH fx fy q l).cons p).trans (.swap q p l)
theorem OL {fx fy : Bool} {q : aq} : ∀ {l : List aq}, jd fx fy l → q ∉ l → jd fx fy (mv fx fy q l)
 | [], _, _ => by unfold mv jd; simp
 | p :: l, h, aD => by
  have ak := jv.1 h;unfold mv
  split
  ·rename_i an;refine jv.2 ⟨fun r al => ?_, h⟩;rcases gS.1 al with rfl | al
   ·exact an
   ·exact zb an (ak.1 r al)
  ·rename_i an;refine jv.2 ⟨fun r al => ?_, OL ak.2 fun ar => aD (oA _ ar)⟩;rcases gS.1 ((AH fx fy q l).mem_iff.1 al) with rfl | al
   ·rcases Gy (fx := fx) (fy := fy) (p := p) (q := r) (fun e => aD (by rw [e]; exact k2 ..)) with ar | ar
    ·exact ar
    ·exact absurd ar an
   ·exact ak.1 r al
def rS (fx fy : Bool) (f : aq → Bool) (l : List aq) : List aq := l.foldl (fun out q => if f q then mv fx fy q out else out) []
theorem FJ (fx fy : Bool) (f : aq → Bool) (l : List aq) : (rS fx fy f l).Perm (l.filter f) := by
 have key : ∀ (l out : List aq), (l.foldl (fun out q => if f q then mv fx fy q out else out) out).Perm (out ++ l.filter f) := by
  intro l
  induction l with
  | nil => intro out; simp
  | cons q l bW =>
   intro out;rw [List.foldl_cons, List.filter_cons]
   by_cases an : f q = true
   ·rw [if_pos an, if_pos an];refine (bW _).trans ?_;refine ((AH fx fy q out).append_right _).trans ?_;exact List.perm_middle.symm
   ·rw [if_neg an, if_neg an]; exact bW out
 exact key l []
theorem agD (fx fy : Bool) (f : aq → Bool) (l : List aq) : (rS fx fy f l).length ≤ l.length := by
 rw [(FJ fx fy f l).length_eq]; exact List.length_filter_le _ _
theorem BD (fx fy : Bool) (f : aq → Bool) {l : List aq} (aD : l.Nodup) : jd fx fy (rS fx fy f l) := by
 have key : ∀ (l out : List aq), jd fx fy out → (out ++ l).Nodup → jd fx fy (l.foldl (fun out q => if f q then mv fx fy q out else out) out) := by
  intro l
  induction l with
  | nil => intro out h _; exact h
  | cons q l bW =>
   intro out h hd;have hm := List.nodup_append.1 hd;have an : q ∉ out := fun ha => hm.2.2 q ha q (k2 ..) rfl;rw [List.foldl_cons]
   by_cases aw : f q = true
   ·rw [if_pos aw];refine bW _ (OL h an) ?_;have hp : (mv fx fy q out ++ l).Perm (out ++ q :: l) := ((AH fx fy q out).append_right l).trans List.perm_middle.symm;exact hp.nodup_iff.2 hd
   ·rw [if_neg aw];refine bW _ h ?_;exact hd.sublist (List.Sublist.append_left (List.sublist_cons_self q l) out)
 exact key l [] List.Pairwise.nil (by simpa using aD)
theorem Ju (lt : aq → aq → Bool) : ∀ a b, (e5 lt a b).Perm (a ++ b) := by
 intro a b
 induction a, b using e5.induct lt with
 | case1 b => simp [e5]
 | case2 x a => simp [e5]
 | case3 x a y b h bW =>
  rw [e5, if_pos h];exact (bW.cons y).trans List.perm_middle.symm
 | case4 x a y b h bW =>
  rw [e5, if_neg h];exact bW.cons x
theorem acs {fx fy : Bool} : ∀ a b, jd fx fy a → jd fx fy b → (a ++ b).Nodup → jd fx fy (e5 (dN fx fy) a b) := by
 intro a b
 induction a, b using e5.induct (dN fx fy) with
 | case1 b => intro _ h _; simpa [e5] using h
 | case2 x a => intro h _ _; simpa [e5] using h
 | case3 x a y b h bW =>
  intro aI ab hd;rw [e5, if_pos h];have DI := jv.1 ab;have et := jv.1 aI;have sH : (x :: a ++ b).Nodup := hd.sublist (List.Sublist.append_left (List.sublist_cons_self y b) (x :: a));refine jv.2 ⟨fun r al => ?_, bW aI DI.2 sH⟩;rcases kD.1 ((Ju _ _ _).mem_iff.1 al) with al | al
  ·rcases gS.1 al with rfl | al
   ·exact h
   ·exact zb h (et.1 r al)
  ·exact DI.1 r al
 | case4 x a y b h bW =>
  intro aI ab hd;rw [e5, if_neg h];have DI := jv.1 ab;have et := jv.1 aI;have lv : x ≠ y := fun e => (List.nodup_append.1 hd).2.2 x (k2 ..) y (k2 ..) e;have bh : dN fx fy x y = true := (Gy lv).resolve_right h;have sH : (a ++ y :: b).Nodup := (List.nodup_cons.1 hd).2;refine jv.2 ⟨fun r al => ?_, bW et.2 ab sH⟩;rcases kD.1 ((Ju _ _ _).mem_iff.1 al) with al | al
  ·exact et.1 r al
  ·rcases gS.1 al with rfl | al
   ·exact bh
   ·exact zb bh (DI.1 r al)
theorem BF (lt : aq → aq → Bool) : ∀ (N : Nat) (l : List aq), l.length ≤ N → (ja lt l).Perm l
 | N, l, h => by
  by_cases q : l.length < 2
  ·rw [ja, dif_pos q]
  ·match N with
   | 0 => omega
   | N + 1 =>
    rw [ja, dif_neg q];refine (Ju lt _ _).trans ?_;refine ((BF lt N _ (by simp; omega)).append (BF lt N _ (by simp; omega))).trans ?_;rw [k3]
theorem Kq {fx fy : Bool} : ∀ (N : Nat) (l : List aq), l.length ≤ N → l.Nodup → jd fx fy (ja (dN fx fy) l)
 | N, l, h, hd => by
  by_cases q : l.length < 2
  ·rw [ja, dif_pos q]
   match l, q with
   | [], _ => exact .nil
   | [x], _ => unfold jd; simp
   | x :: y :: l, q => exact absurd q (by simp)
  ·match N with
   | 0 => omega
   | N + 1 =>
    rw [ja, dif_neg q];refine acs _ _ (Kq N _ (by simp; omega) (hd.sublist (List.take_sublist _ _))) (Kq N _ (by simp; omega) (hd.sublist (List.drop_sublist _ _))) ?_;have hp := (BF (dN fx fy) N (l.take (l.length / 2)) (by simp; omega)).append (BF (dN fx fy) N (l.drop (l.length / 2)) (by simp; omega));rw [k3] at hp;exact hp.nodup_iff.2 hd
theorem agJ {fx fy : Bool} {f : aq → Bool} {l m : List aq} (aD : l.Nodup) (hp : m.Perm (l.filter f)) : ja (dN fx fy) m = rS fx fy f l :=
 CJ (Kq _ m (eb _) (hp.nodup_iff.2 (aD.sublist List.filter_sublist))) (BD fx fy f aD) ((BF _ _ m (eb _)).trans (hp.trans (FJ fx fy f l).symm))
end Go.Proofs.YtpochbhajmbfdaaGreat
namespace Go.Proofs.YtpochbhajmbfdaaGreat
open Go.RowKit
def BI (P : Program) (rb : TypeId) (agg : Bool) (n : Nat) : Bool := match kI P rb with
 | some (b, m) => Bool.beq b agg && Nat.beq m n
 | none => false
where Bool.beq : Bool → Bool → Bool
 | true, true => true
 | false, false => true
 | _, _ => false
def Hp (P : Program) (ty i off : Nat) (agg : Bool) (n : Nat) : Bool := match P.underlying ty with
 | some (.struct fs) => match fs[i]? with
  | some f => Nat.beq f.offset off && BI P f.type agg n
  | none => false
 | _ => false
def IR (P : Program) (ty len : Nat) (agg : Bool) (n : Nat) : Bool := match P.underlying ty with
 | some (.array l e) => Nat.beq l len && BI P e agg n && (match P.info? e with | some t => Nat.beq t.size n | none => false)
 | _ => false
class KR (P : Program) (ty i : Nat) (off : outParam Nat) (agg : outParam Bool) (n : outParam Nat) : Prop where
 h : Hp P ty i off agg n = true
class KU (P : Program) (ty : Nat) (len : outParam Nat) (agg : outParam Bool) (n : outParam Nat) : Prop where
 h : IR P ty len agg n = true
section
variable {P : Program}
theorem Sv {rb n : Nat} {agg : Bool} (h : BI P rb agg n = true) : kI P rb = some (agg, n) := by
 unfold BI at h
 split at h
 ·rename_i b m ab;rw [eh] at h;have e := hP h.2;have aM : b = agg := by cases b <;> cases agg <;> simp [BI.Bool.beq] at h ⊢
  rw [ab, e, aM]
 ·cases h
theorem RY {rb n off : Nat} {cs : List Value} {v : Value} {W : World} (h : kI P rb = some (false, n)) (hv : cs[off]? = some v) : (part rb cs.toArray off).run P W = .ok v W := by
 unfold kI at h;cases hu : P.underlying rb with
 | none => rw [hu] at h; cases h
 | some D =>
  have h1 : (isAgg rb).run P W = .ok false W := by
   unfold isAgg;simp only [Sem.run_bind, run_underlying hu, Result.andThen_ok];cases hi : P.info? rb with
   | none => rw [hu, hi] at h; cases D <;> first | rfl | (cases h)
   | some eP => rw [hu, hi] at h; cases D <;> first | rfl | (cases h)
  unfold part;simp only [Sem.run_bind, h1, Result.andThen_ok, oC, if_false, List.getElem?_toArray, hv, Sem.run_pure]
variable {s : aE} {ops : Array Oper} {K : aE → Prop} {rest : List Oper} {ty : Nat} {pos : String} {after : Array Edge} {guard : Option (Nat × Bool)} {d : Nat}
theorem XK {de i off n : Nat} {agg : Bool} (h : Hp P de i off agg n = true) : ∃ fs f, P.underlying de = some (.struct fs) ∧ fs[i]? = some f ∧ f.offset = off ∧ kI P f.type = some (agg, n) := by
 unfold Hp at h
 split at h
 ·rename_i fs hu
  split at h
  ·rename_i f aw;rw [eh] at h;exact ⟨fs, f, hu, aw, hP h.1, Sv h.2⟩
  ·cases h
 ·cases h
theorem aaO {de len n : Nat} {agg : Bool} (h : IR P de len agg n = true) : ∃ e t, P.underlying de = some (.array len e) ∧ P.info? e = some t ∧ t.size = n ∧ kI P e = some (agg, n) := by
 unfold IR at h
 split at h
 ·rename_i l e hu;simp only [eh] at h;obtain ⟨⟨h1, h2⟩, ao⟩ := h
  split at ao
  ·rename_i t aF;exact ⟨e, t, by rw [hu, hP h1], aF, hP ao, Sv h2⟩
  ·cases ao
 ·cases h
theorem UQ {x : Operand} {de i off n : Nat} {xs : List AC} {y : AC} [F : KR P de i off false n] (hw : want ops ⟨some d, .field de x i, ty, pos, after, guard⟩ s = some true) (aa : s.look x = some (.w (.agg xs))) (ak : xs[off]? = some y) (hd : Nat.blt d s.n = true) (h : bj P ops K rest (s.put (some d) (.w (.one y)))) : bj P ops K (⟨some d, .field de x i, ty, pos, after, guard⟩ :: rest) s := by
 refine gp hw ⟨fun _ _ h => (by cases h), fun z a6 => ?_, fun U ad W env he => ?_, fun j af => ⟨x, by simp [Op.operands], _, aa, ?_⟩⟩ hd h
 ·simp [Op.operands] at a6;subst a6;exact ⟨_, aa⟩
 ·obtain ⟨vs, aG, ap⟩ := he x (by simp [Op.operands]) _ aa;obtain ⟨fs, f, hu, aw, aB, ee⟩ := XK F.h;have bh : off < vs.length := by rw [← ap.1]; exact (bP.1 ak).1
  refine ⟨vs[off], ?_, ap.2 off y _ ak (cj bh)⟩;simp only [execOp, Instr.field, aG, Sem.run_bind, run_underlying hu, Result.andThen_ok, aw, asAgg, Sem.run_pure, aB, RY ee (cj bh)]
 ·obtain ⟨z, a6, AE⟩ := af;simp [bK.cells] at a6;subst a6;exact ⟨z, dL ak, AE⟩
theorem UX {x y : Operand} {de len n : Nat} {ho : IntKind} {i : Int} {xs : List AC} {z : AC} [A : KU P de len false n] (hw : want ops ⟨some d, .index de x y, ty, pos, after, guard⟩ s = some true) (aa : s.look x = some (.w (.agg xs))) (ag : s.look y = some (aU (.int ho i))) (aJ : 0 ≤ i) (h1 : i < len) (ak : xs[i.toNat * n]? = some z) (hd : Nat.blt d s.n = true) (h : bj P ops K rest (s.put (some d) (.w (.one z)))) : bj P ops K (⟨some d, .index de x y, ty, pos, after, guard⟩ :: rest) s := by
 refine gp hw ⟨fun _ _ h => (by cases h), fun z a6 => ?_, fun U ad W env he => ?_, fun j af => ⟨x, by simp [Op.operands], _, aa, ?_⟩⟩ hd h
 ·simp [Op.operands] at a6;rcases a6 with rfl | rfl
  ·exact ⟨_, aa⟩
  ·exact ⟨_, ag⟩
 ·obtain ⟨vs, aG, ap⟩ := he x (by simp [Op.operands]) _ aa;have hi : env y = .int ho i := (he y (by simp [Op.operands]) _ ag).1;obtain ⟨e, t, hu, aF, hs, ee⟩ := aaO A.h;have bh : i.toNat * n < vs.length := by rw [← ap.1]; exact (bP.1 ak).1
  refine ⟨vs[i.toNat * n], ?_, ap.2 _ z _ ak (cj bh)⟩;simp only [execOp, Instr.index, aG, hi, asIntOf, Sem.run_bind, Sem.run_pure, Result.andThen_ok, run_underlying hu, if_pos (And.intro aJ h1), h5 aF, hs, RY ee (cj bh)]
 ·obtain ⟨u, hu, aaf⟩ := af;simp [bK.cells] at hu;subst hu;exact ⟨u, dL ak, aaf⟩
theorem UM {de dY : Nat} {x y : Operand} {a b : Bool} (hw : want ops ⟨some d, .binOp .eql de x y dY, ty, pos, after, guard⟩ s = some true) (aa : s.look x = some (bG a)) (ag : s.look y = some (bG b)) (hd : Nat.blt d s.n = true) (hu : P.underlying de = some .bool) (h : bj P ops K rest (s.put (some d) (bG (a == b)))) : bj P ops K (⟨some d, .binOp .eql de x y dY, ty, pos, after, guard⟩ :: rest) s :=
 si hw aa ag rfl rfl (fun W => rfl) (fun W => run_eql_bool W de a b hu) rfl hd h
end
theorem Q7 {P : Program} {f : FuncId} {args sk : List ai} {r : ai} (h : aY P f args r) (jX : sk.all ai.bd = true) (ap : sk.length = args.length) (hle : ∀ (i : Nat) x y, sk[i]? = some x → args[i]? = some y → x.bo y) : aY P f sk r :=
 ⟨fun x aa => ai.dI (cB.1 jX x aa), h.ct, fun U W vs dX => h.call U W vs ⟨by rw [← ap]; exact dX.1, fun i y v ag hv => by
  have hi : i < sk.length := by rw [ap]; exact (bP.1 ag).1
  exact hle i _ y (cj hi) ag U id W v (dX.2 i _ v (cj hi) hv)⟩⟩
abbrev Kz : ai := aU (.slice none 0 0)
theorem nil_le (z : Nat) : Kz.bo (cT z 0 []) := fun U ad W v h => by
 obtain ⟨rfl, _⟩ := h;exact ⟨⟨none, 0, rfl, eb _, by simp, fun h => absurd h (Nat.lt_irrefl _)⟩, fun b ⟨c, a, q, aD, _⟩ => absurd aD (Nat.lt_irrefl _)⟩
end Go.Proofs.YtpochbhajmbfdaaGreat
