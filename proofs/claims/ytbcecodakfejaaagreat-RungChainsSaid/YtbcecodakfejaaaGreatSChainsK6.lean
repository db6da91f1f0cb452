/-
  My own texts, without what this claim does not need. My own text.
-/
import Derived.WalkKit
import Derived.Deep.QuietTactic
import Derived.OwnWalk
import Derived.Laws.OwnMore
import Derived.Maps.AppendAt
import Derived.IntWalk
import Derived.Test.YtbcecodakfejaaaGreatSChainsK5
set_option maxRecDepth 100000
set_option maxHeartbeats 64000000
set_option linter.unusedVariables false
set_option linter.unusedSimpArgs false
set_option linter.unusedSectionVars false
open Go.Proofs.Tryz renaming prog → ag
namespace Go.Proofs.YtbcecodakfejaaaGreat
open Go.RowKit
def cG (k : Nat) (cs : List AC) : Mem := bG b3 k cs
theorem hG {k j : Nat} {cs ds : List AC} (h : cG k cs j = some ds) : j = k ∧ ds = cs := by
 unfold cG at h
 by_cases e : j = k
 ·subst e; rw [cl] at h; exact ⟨rfl, (ny h).symm⟩
 ·rw [b9 _ _ e] at h; cases h
theorem fI {k j : Nat} {r q : bE} (h : bt k r j = some q) : j = k ∧ q = r := by
 unfold bt at h
 by_cases e : j = k
 ·subst e; rw [cl] at h; exact ⟨rfl, (ny h).symm⟩
 ·rw [b9 _ _ e] at h; cases h
theorem vq {α : Type} (f : Nat → Option α) (k : Nat) (x : α) : bP (bG (fun _ => none) k x) f = bG f k x := by
 funext j
 by_cases e : j = k
 ·subst e; rw [cl]; exact hH (cl _ _ _)
 ·rw [b9 _ _ e]; exact hI (b9 _ _ e)
theorem Qb {α : Type} (f : Nat → Option α) : bP (fun _ => none) f = f := by funext j; exact hI rfl
def xC (n : Nat) (args : List ah) (m : Mem) : aC := ⟨n, fun t => args[t]?, m⟩
def tm (P : Program) (fn : Func) (m0 : Mem) (R0 : aI) (Post : ah → Mem → aI → Prop) (R : aI) (s : aC) : Prop :=
 ∃ xs r aG ay, fn.results.toList.map (iG P s) = xs.map some ∧ (packed xs).aS r ∧ Post r aG ay ∧ (∀ k cs, aG k = some cs → s.mem k = some cs) ∧ bz ay R ∧ (∀ j, r.owns j → ∃ cs, aG j = some cs) ∧ (∀ k cs x j, aG k = some cs → x ∈ cs → x.owns j → ∃ ar, aG j = some ar) ∧ (∀ k cs, m0 k = some cs → ∃ ar, aG k = some ar) ∧ ∀ i r, R0 i = some r → ∃ aV, ay i = some aV
def jJ (P : Program) (fn : Func) (m0 : Mem) (R0 : aI) (Post : ah → Mem → aI → Prop) : Exit → aI → aC → Prop
 | .normal, R, s | .ret, R, s => tm P fn m0 R0 Post R s
 | _, _, _ => False
section
variable {P : Program}
theorem dt {f : FuncId} {fn : Func} {c : Code} {args : List ah} {m0 : Mem} {R0 : aI} {Post : ah → Mem → aI → Prop} (au : P.funcs[f]? = some fn) (ab : fn.body = some c) (ax : args.length ≤ fn.ntmps) (pI : ∀ k cs, m0 k = some cs → fn.ntmps ≤ k)
  (h : fl P c (jJ P fn m0 R0 Post) R0 (xC fn.ntmps args m0)) : da P f args m0 R0 Post := by
 refine ⟨fun U ad W vs cI cD cK => ?_⟩;have ak := cK.1;refine calls_of_wp au ab ?_;have ok : (xC fn.ntmps args m0).cN := ⟨fun t av j aB ae => cD av (cV aB) j ae, fun k cs x j af aa ae => cI.fF k cs x j af aa ae⟩
 let bw : eZ := ⟨W, fun b => b < W.heap.size ∧ ¬ ej ad m0 R0 b, fun _ h => h.1, fun k => match m0 k with | some _ => some (ad k) | none => none, []⟩
 have bb : ∀ b, ej ad m0 R0 b → b < W.heap.size := by
  rintro b (⟨k, cs, af, rfl⟩ | ⟨i, r, hi, aq⟩)
  ·obtain ⟨vs, ty, h1, _⟩ := cI.dC k cs af;exact (jU.1 h1).1
  ·exact (cI.rows i r hi).1.lt aq
 have XX : ∀ b, U b → ¬ ej ad m0 R0 b := by
  rintro b hu (⟨k, cs, af, rfl⟩ | ⟨i, r, hi, aq⟩)
  ·obtain ⟨_, _, _, _, h⟩ := cI.dC k cs af; exact h hu
  ·exact ((cI.rows i r hi).2.2 b aq).1 hu
 have Gx : ui bw (xC fn.ntmps args m0) ad := fun k b af => by
  cases hm : m0 k with
  | none => simp only [bw, hm] at af; cases af
  | some cs => simp only [bw, hm, hY] at af; exact ⟨pI k cs hm, af⟩
 have jG : ∀ b, U b → b < W.heap.size → (xC fn.ntmps args m0).free (fun b => U b ∨ W.heap.size ≤ b) ad b ∧ W.heap[b]? = W.heap[b]? := fun b hu _ => ⟨⟨.inl hu, fun k cs af e => XX b hu (.inl ⟨k, cs, af, e⟩)⟩, rfl⟩
 have aw : ev bw (fun b => U b ∨ W.heap.size ≤ b ∨ ej ad m0 R0 b) R0 (xC fn.ntmps args m0) { tmps := vs.toArray ++ Array.replicate (fn.ntmps - vs.toArray.size) undef, defers := [] } W (fun b => U b ∨ W.heap.size ≤ b) ad := by
  refine ⟨fun b ab => .inr (.inl ab), fun b ab => ab.elim .inl fun h => .inr (.inl h), ?_, fun k cs af au => au.2 (.inl ⟨k, cs, af, rfl⟩), ⟨rfl, rfl, rfl, dE _, fun _ _ => rfl⟩, fun i r hi => ?_, cI.apart, fun i r g hi aq => ⟨fun au => au.2 (.inr ⟨i, r, hi, aq⟩), .inr (.inr (.inr ⟨i, r, hi, aq⟩))⟩, Gx⟩
  ·refine ⟨rfl, by simp [xC]; omega, fun t av aB => ?_, fun k cs af => ?_, cI.inj, j3.refl _, fun b ab => .inr ab, wH _ _ _⟩
   ·have Cq : t < vs.length := by rw [← ak]; exact (bA.1 aB).1
    refine ⟨vs[t], by simp [Array.getElem?_append, Cq], ?_⟩;exact (cK.2 t av _ aB (bJ Cq)).map jG fun _ _ => rfl
   ·obtain ⟨us, ty, h1, h2, ao⟩ := cI.dC k cs af;exact ⟨us, ty, h1, h2.map jG fun _ _ _ _ => rfl, fun au => au.2 k cs af rfl⟩
  ·obtain ⟨lp, al, aq⟩ := cI.rows i r hi;refine ⟨lp.kept al (fun _ _ => rfl) (dE _) jG, al, fun g q => ⟨?_, fun k cs af => (aq g q).2 k cs af⟩⟩;rintro (hu | hu)
   ·exact (aq g q).1 hu
   ·have := bb g (.inr ⟨i, r, hi, q⟩); omega
 refine wp_mono (h ok bw _ _ W ⟨_, ad, aw⟩).top ?_;rintro e a' w' ⟨fk, s', dO, ⟨dU, a7, ct⟩, an⟩
 have fin : tm P fn m0 R0 Post fk s' → a'.defers = [] ∧ ∃ v, (results fn a'.tmps).run P w' = .ok v w' ∧ ∃ v' r aG ay a7 cw, Ending.returned v = .returned v' ∧ Post r aG ay ∧ e2 cw a7 w' aG ay ∧ cX cw a7 w' r v' ∧ (∀ j, r.owns j → ∃ cs, aG j = some cs) ∧
   (∀ k cs, m0 k = some cs → a7 k = ad k ∧ ∃ ar, aG k = some ar) ∧ (∀ i r, R0 i = some r → ∃ aV, ay i = some aV) ∧
   (∀ b, cw b → U b ∨ W.heap.size ≤ b ∨ ej ad m0 R0 b) ∧ (∀ b, ej a7 aG ay b → ej ad m0 R0 b ∨ W.heap.size ≤ b) ∧ j3 (G7 ad W m0 R0) w' := by
  rintro ⟨xs, r, aG, ay, h1, h2, ao, aD, cm, eQ, jE, pD, iP⟩;obtain ⟨v, q1, q2⟩ := Rv ct.rel h1;refine ⟨ct.rel.pY, v, q1, v, r, aG, ay, a7, s'.free dU a7, rfl, ao, ct.part aD cm jE, h2 _ _ _ _ q2, eQ, fun k cs af => ⟨(ct.j7 k (ad k) (by simp [bw, af])).2, pD k cs af⟩, iP, fun b ab => ct.sub b ab.1, ?_, ⟨ct.below.os, ct.below.tape, ct.below.output, ct.below.size, fun b ab => ct.below.block b ab⟩⟩;rintro b (⟨k, cs, af, rfl⟩ | ⟨i, q, hi, aq⟩)
  ·have G4 := ct.oO k cs (aD k cs af);rcases hZ (a7 k) W.heap.size with nf | nf
   ·exact .inl (Classical.byContradiction fun ax => G4 ⟨nf, ax⟩)
   ·exact .inr nf
  ·have G4 := (ct.hot i q b (cm i q hi) aq).1;rcases hZ b W.heap.size with nf | nf
   ·exact .inl (Classical.byContradiction fun ax => G4 ⟨nf, ax⟩)
   ·exact .inr nf
 cases e with
 | normal => exact fin an
 | ret => exact fin an
 | _ => exact an.elim
end
def AC.aX (bC : Nat → Nat) : AC → AC
 | .own k o => .own (bC k) o
 | .c v => .c v
 | .p R => .p R
def bx.aX (bC : Nat → Nat) : bx → bx
 | .one x => .one (x.aX bC)
 | .agg xs => .agg (xs.map (AC.aX bC))
def ah.aX (bC : Nat → Nat) : ah → ah
 | .w x => .w (x.aX bC)
 | .cn xs => .cn (xs.map (bx.aX bC))
def Mem.aX (bC : Nat → Nat) (m : Mem) : Mem := fun j => (m (bC j)).map fun cs => cs.map (AC.aX bC)
def aI.aX (bV : Nat → Nat) (R : aI) : aI := fun j => R (bV j)
section
variable {P : Program} {U : Nat → Prop} {ad : Nat → Nat} {W : World} {bC bV iu : Nat → Nat}
theorem gE.aX {x : AC} {v : Value} : gE U ad W (x.aX bC) v ↔ gE U (fun k => ad (bC k)) W x v := by cases x <;> exact Iff.rfl
theorem bL.aX {xs : List AC} {vs : List Value} : bL U ad W (xs.map (AC.aX bC)) vs ↔ bL U (fun k => ad (bC k)) W xs vs := by
 constructor
 ·rintro ⟨h1, h2⟩;refine ⟨by simpa using h1, fun i x v aa hv => gE.aX.1 (h2 i (x.aX bC) v (by rw [eh, aa]; rfl) hv)⟩
 ·rintro ⟨h1, h2⟩;refine ⟨by simpa using h1, fun i x v aa hv => ?_⟩;rw [eh] at aa;cases ai : xs[i]? with
  | none => rw [ai] at aa; cases aa
  | some y => rw [ai] at aa; cases aa; exact gE.aX.2 (h2 i y v ai hv)
theorem fR.aX {x : bx} {v : Value} : fR U ad W (x.aX bC) v ↔ fR U (fun k => ad (bC k)) W x v := by
 cases x with
 | one x => exact gE.aX
 | agg xs =>
  constructor
  ·rintro ⟨vs, e, h⟩; exact ⟨vs, e, bL.aX.1 h⟩
  ·rintro ⟨vs, e, h⟩; exact ⟨vs, e, bL.aX.2 h⟩
theorem cX.aX {x : ah} {v : Value} : cX U ad W (x.aX bC) v ↔ cX U (fun k => ad (bC k)) W x v := by
 cases x with
 | w x => exact fR.aX
 | cn xs =>
  constructor
  ·rintro ⟨vs, e, ak, h⟩;exact ⟨vs, e, by simpa using ak, fun i x v aa hv => fR.aX.1 (h i (x.aX bC) v (by rw [eh, aa]; rfl) hv)⟩
  ·rintro ⟨vs, e, ak, h⟩;refine ⟨vs, e, by simpa using ak, fun i x v aa hv => ?_⟩;rw [eh] at aa;cases ai : xs[i]? with
   | none => rw [ai] at aa; cases aa
   | some y => rw [ai] at aa; cases aa; exact fR.aX.2 (h i y v ai hv)
theorem AC.DS {x : AC} {j : Nat} (h : (x.aX bC).owns j) : ∃ i, x.owns i ∧ j = bC i := by
 cases x with
 | own k o => exact ⟨k, rfl, h⟩
 | c v => cases h
 | p R => cases h
theorem AC.DA {x : AC} {j : Nat} (h : x.owns j) : (x.aX bC).owns (bC j) := by
 cases x with
 | own k o => cases h; rfl
 | c v => cases h
 | p R => cases h
theorem bx.Lv (x : bx) : (x.aX bC).cells = x.cells.map (AC.aX bC) := by cases x <;> rfl
theorem ah.DS {x : ah} {j : Nat} (h : (x.aX bC).owns j) : ∃ i, x.owns i ∧ j = bC i := by
 have key : ∀ y : bx, (y.aX bC).owns j → ∃ i, y.owns i ∧ j = bC i := by
  rintro y ⟨z, aN, ae⟩;rw [bx.Lv] at aN;obtain ⟨u, hu, rfl⟩ := gm.1 aN;obtain ⟨i, h1, h2⟩ := AC.DS ae;exact ⟨i, ⟨u, hu, h1⟩, h2⟩
 cases x with
 | w x => exact key x h
 | cn xs =>
  obtain ⟨y, ai, ae⟩ := h;obtain ⟨u, hu, rfl⟩ := gm.1 ai;obtain ⟨i, h1, h2⟩ := key u ae;exact ⟨i, ⟨u, hu, h1⟩, h2⟩
theorem ah.DA {x : ah} {j : Nat} (h : x.owns j) : (x.aX bC).owns (bC j) := by
 have key : ∀ y : bx, y.owns j → (y.aX bC).owns (bC j) := by
  rintro y ⟨z, aN, ae⟩;exact ⟨z.aX bC, by rw [bx.Lv]; exact gm.2 ⟨z, aN, rfl⟩, AC.DA ae⟩
 cases x with
 | w x => exact key x h
 | cn xs =>
  obtain ⟨y, ai, ae⟩ := h;exact ⟨y.aX bC, gm.2 ⟨y, ai, rfl⟩, key y ae⟩
theorem Mem.ri {m : Mem} {j : Nat} {cs : List AC} (h : Mem.aX bC m j = some cs) : ∃ ds, m (bC j) = some ds ∧ cs = ds.map (AC.aX bC) := by
 unfold Mem.aX at h;cases hm : m (bC j) with
 | none => rw [hm] at h; cases h
 | some ds => rw [hm] at h; exact ⟨ds, rfl, (ny h).symm⟩
theorem Mem.rh (fr : ∀ j, bC (bC j) = j) {m : Mem} {k : Nat} {cs : List AC} (h : m k = some cs) : Mem.aX bC m (bC k) = some (cs.map (AC.aX bC)) := by
 unfold Mem.aX; rw [fr, h]; rfl
theorem ej.aX (fr : ∀ j, bC (bC j) = j) (fE : ∀ j, bV (iu j) = j) {m : Mem} {R : aI} {b : Nat} : ej ad (m.aX bC) (R.aX bV) b ↔ ej (fun k => ad (bC k)) m R b := by
 constructor
 ·rintro (⟨k, cs, af, e⟩ | ⟨i, r, hi, aq⟩)
  ·obtain ⟨ds, h1, _⟩ := Mem.ri af;exact .inl ⟨bC k, ds, h1, by simp only [fr]; exact e⟩
  ·exact .inr ⟨bV i, r, hi, aq⟩
 ·rintro (⟨k, cs, af, e⟩ | ⟨i, r, hi, aq⟩)
  ·exact .inl ⟨bC k, _, Mem.rh fr af, e⟩
  ·exact .inr ⟨iu i, r, by unfold aI.aX; rw [fE]; exact hi, aq⟩
theorem e2.aX (fr : ∀ j, bC (bC j) = j) (fE : ∀ j, bV (iu j) = j) (vd : ∀ j, iu (bV j) = j) {m : Mem} {R : aI} : e2 U ad W (m.aX bC) (R.aX bV) ↔ e2 U (fun k => ad (bC k)) W m R := by
 have Od : ∀ {a b : Nat}, bC a = bC b → a = b := fun {a b} h => by rw [← fr a, h, fr]
 have ZV : ∀ {a b : Nat}, bV a = bV b → a = b := fun {a b} h => by rw [← vd a, h, vd]
 have ZW : ∀ {a b : Nat}, iu a = iu b → a = b := fun {a b} h => by rw [← fE a, h, fE]
 constructor
 ·intro h;refine ⟨fun k cs af => ?_, fun k cs x j af aa ae => ?_, fun k k' cs ar af eI e => ?_, fun i r hi => ?_, fun i j r q hi ae gH g aq => h.apart (iu i) (iu j) r q (by unfold aI.aX; rw [fE]; exact hi) (by unfold aI.aX; rw [fE]; exact ae) (fun e => gH (ZW e)) g aq⟩
  ·obtain ⟨vs, ty, h1, h2, ao⟩ := h.dC (bC k) _ (Mem.rh fr af);exact ⟨vs, ty, h1, bL.aX.1 h2, ao⟩
  ·obtain ⟨ar, h1⟩ := h.fF (bC k) _ (x.aX bC) (bC j) (Mem.rh fr af) (gm.2 ⟨x, aa, rfl⟩) (AC.DA ae);obtain ⟨ds, h2, _⟩ := Mem.ri h1;rw [fr] at h2;exact ⟨ds, h2⟩
  ·exact Od (h.inj (bC k) (bC k') _ _ (Mem.rh fr af) (Mem.rh fr eI) e)
  ·obtain ⟨h1, ao, aD⟩ := h.rows (iu i) r (by unfold aI.aX; rw [fE]; exact hi);exact ⟨h1.kept ao (fun _ _ => rfl) (dE _) (fun b ab _ => ⟨ab, rfl⟩), ao, fun g aq => ⟨(aD g aq).1, fun k cs af => (aD g aq).2 (bC k) _ (Mem.rh fr af)⟩⟩
 ·intro h;refine ⟨fun k cs af => ?_, fun k cs x j af aa ae => ?_, fun k k' cs ar af eI e => ?_, fun i r hi => ?_, fun i j r q hi ae gH g aq => h.apart (bV i) (bV j) r q hi ae (fun e => gH (ZV e)) g aq⟩
  ·obtain ⟨ds, az, rfl⟩ := Mem.ri af;obtain ⟨vs, ty, h1, h2, ao⟩ := h.dC (bC k) ds az;simp only [fr] at h1 ao;exact ⟨vs, ty, h1, bL.aX.2 h2, ao⟩
  ·obtain ⟨ds, az, rfl⟩ := Mem.ri af;obtain ⟨y, ai, rfl⟩ := gm.1 aa;obtain ⟨i, h1, rfl⟩ := AC.DS ae;obtain ⟨ar, h2⟩ := h.fF (bC k) ds y i az ai h1;exact ⟨_, Mem.rh fr h2⟩
  ·obtain ⟨ds, az, _⟩ := Mem.ri af;obtain ⟨Wx, yG, _⟩ := Mem.ri eI;exact Od (h.inj (bC k) (bC k') _ _ az yG (by simp only [fr]; exact e))
  ·obtain ⟨h1, ao, aD⟩ := h.rows (bV i) r hi;refine ⟨h1.kept ao (fun _ _ => rfl) (dE _) (fun b ab _ => ⟨ab, rfl⟩), ao, fun g aq => ⟨(aD g aq).1, fun k cs af => ?_⟩⟩;obtain ⟨ds, az, _⟩ := Mem.ri af;have := (aD g aq).2 (bC k) ds az;simpa only [fr] using this
theorem da.aX (fr : ∀ j, bC (bC j) = j) (fE : ∀ j, bV (iu j) = j) (vd : ∀ j, iu (bV j) = j) {f : FuncId} {args : List ah} {m0 : Mem} {R0 : aI} {Post : ah → Mem → aI → Prop} (h : da P f args m0 R0 Post) :
  da P f (args.map (ah.aX bC)) (m0.aX bC) (R0.aX bV) fun r aG ay => ∃ cx m1 bh, Post cx m1 bh ∧ r = cx.aX bC ∧ aG = Mem.aX bC m1 ∧ ay = aI.aX bV bh := by
 refine ⟨fun U ad W vs cI cD cK => ?_⟩;have ZB : j6 U (fun k => ad (bC k)) W args vs := ⟨by simpa using cK.1, fun i x v aa hv => cX.aX.1 (cK.2 i (x.aX bC) v (by rw [eh, aa]; rfl) hv)⟩;refine (h.call U (fun k => ad (bC k)) W vs ((e2.aX fr fE vd).1 cI) (fun x aa j ae => ?_) ZB).mono ?_
 ·obtain ⟨cs, h1⟩ := cD (x.aX bC) (gm.2 ⟨x, aa, rfl⟩) (bC j) (ah.DA ae);obtain ⟨ds, h2, _⟩ := Mem.ri h1;rw [fr] at h2;exact ⟨ds, h2⟩
 ·rintro e bf ⟨v, r, aG, ay, a7, cw, rfl, h1, h2, ao, aD, cm, eQ, jE, pD, iP⟩;have aF : (fun k => (fun k => a7 (bC k)) (bC k)) = a7 := by funext k; simp only [fr]
  refine ⟨v, r.aX bC, aG.aX bC, ay.aX bV, fun k => a7 (bC k), cw, rfl, ⟨r, aG, ay, h1, rfl, rfl, rfl⟩, (e2.aX fr fE vd).2 (by rw [aF]; exact h2), cX.aX.2 (by rw [aF]; exact ao), fun j ae => ?_, fun k cs af => ?_, fun i q hi => ?_, fun b ab => ?_, fun b ab => ?_, ⟨iP.os, iP.tape, iP.output, iP.size, fun b ab => iP.block b ⟨ab.1, fun aR => ab.2 ((ej.aX fr fE).2 aR)⟩⟩⟩
  ·obtain ⟨i, q1, rfl⟩ := ah.DS ae;obtain ⟨cs, q2⟩ := aD i q1;exact ⟨_, Mem.rh fr q2⟩
  ·obtain ⟨ds, c0, _⟩ := Mem.ri af;obtain ⟨q1, ar, q2⟩ := cm (bC k) ds c0;refine ⟨by show a7 (bC k) = ad k; rw [q1, fr], ?_⟩;have := Mem.rh fr q2;rw [fr] at this;exact ⟨_, this⟩
  ·exact eQ (bV i) q hi
  ·rcases jE b ab with q | q | q
   ·exact .inl q
   ·exact .inr (.inl q)
   ·exact .inr (.inr ((ej.aX fr fE).2 q))
  ·have : ej (fun k => (fun k => a7 (bC k)) (bC k)) aG ay b := (ej.aX fr fE).1 ab;rw [aF] at this;rcases pD b this with q | q
   ·exact .inl ((ej.aX fr fE).2 q)
   ·exact .inr q
end
def swp (a b j : Nat) : Nat := if j = a then b else if j = b then a else j
theorem mO (a b j : Nat) : swp a b (swp a b j) = j := by
 unfold swp
 by_cases h1 : j = a
 ·subst h1
  by_cases h2 : b = j
  ·simp [h2]
  ·simp [h2]
 ·by_cases h2 : j = b
  ·subst h2; simp [h1]
  ·simp [h1, h2]
theorem Ap (a b : Nat) : swp a b a = b := by simp [swp]
theorem Sb (a b : Nat) : swp a b b = a := by unfold swp; by_cases h : b = a <;> simp [h]
theorem Rr {bC : Nat → Nat} {x : AC} (h : x.aY = true) : x.aX bC = x := by cases x <;> first | rfl | cases h
theorem Rs {bC : Nat → Nat} {xs : List AC} (h : xs.all AC.aY = true) : xs.map (AC.aX bC) = xs := by
 rw [b6] at h
 conv => rhs; rw [← List.map_id xs]
 exact o5 fun x aa => Rr (h x aa)
theorem tY {bC : Nat → Nat} {x : ah} (h : x.aY = true) : x.aX bC = x := by
 have key : ∀ y : bx, y.aY = true → y.aX bC = y := fun y ai => by
  cases y with
  | one x => show bx.one (x.aX bC) = _; rw [Rr ai]
  | agg xs => show bx.agg (xs.map _) = _; rw [Rs ai]
 cases x with
 | w x => show ah.w (x.aX bC) = _; rw [key x h]
 | cn xs =>
  show ah.cn (xs.map _) = _;congr 1;have aK : ∀ x ∈ xs, x.aY = true := b6.1 h
  conv => rhs; rw [← List.map_id xs]
  exact o5 fun x aa => key x (aK x aa)
theorem vi {k j : Nat} {cs : List AC} (h : cs.all AC.aY = true) : Mem.aX (swp k j) (cG k cs) = cG j cs := by
 funext i;unfold Mem.aX cG
 by_cases e : i = j
 ·subst e; rw [Sb, cl, cl, ha, Rs h]
 ·rw [b9 _ _ e, b9 _ _ (fun aP => e (by rw [← mO k j i, aP, Ap]))]; rfl
theorem z8 {k j : Nat} {r : bE} : aI.aX (swp k j) (bt k r) = bt j r := by
 funext i;unfold aI.aX bt
 by_cases e : i = j
 ·subst e; rw [Sb, cl, cl]
 ·rw [b9 _ _ e, b9 _ _ (fun aP => e (by rw [← mO k j i, aP, Ap]))]; rfl
def qn (P : Program) (f : FuncId) (args : List ah) (cs : List AC) (r : bE) (post : ah → List AC → bE → Prop) : Prop :=
 ∀ k i, da P f (.w (.one (.own k 0)) :: args) (cG k cs) (bt i r) fun v aG ay => ∃ ar aV, aG = cG k ar ∧ ay = bt i aV ∧ post v ar aV
theorem tH {P : Program} {f : FuncId} {args : List ah} {cs : List AC} {r : bE} {post : ah → List AC → bE → Prop} (aJ : args.all ah.aY = true) (al : cs.all AC.aY = true) (hp : ∀ v ar aV, post v ar aV → v.aY = true ∧ ar.all AC.aY = true)
  (h : da P f (.w (.one (.own 1000 0)) :: args) (cG 1000 cs) (bt 0 r) fun v aG ay => ∃ ar aV, aG = cG 1000 ar ∧ ay = bt 0 aV ∧ post v ar aV) : qn P f args cs r post := by
 intro k i;have h1 := h.aX (bC := swp 1000 k) (bV := swp 0 i) (iu := swp 0 i) (mO _ _) (mO _ _) (mO _ _)
 have aF : (ah.w (.one (.own 1000 0)) :: args).map (ah.aX (swp 1000 k)) = .w (.one (.own k 0)) :: args := by
  have aP : args.map (ah.aX (swp 1000 k)) = args := by
   rw [b6] at aJ
   conv => rhs; rw [← List.map_id args]
   exact o5 fun x aa => tY (aJ x aa)
  rw [kG, aP];show ah.w (.one (.own (swp 1000 k 1000) 0)) :: args = _;rw [Ap]
 rw [aF, vi al, z8] at h1;refine ⟨fun U ad W vs cI cD cK => (h1.call U ad W vs cI cD cK).mono ?_⟩;rintro e bf ⟨v, cx, aG, ay, a7, cw, c0, ⟨dF, m2, fk, ⟨ar, aV, rfl, rfl, an⟩, rfl, rfl, rfl⟩, q⟩;obtain ⟨c1, c2⟩ := hp _ _ _ an;rw [vi c2, z8, tY c1] at q;exact ⟨v, dF, cG k ar, bt i aV, a7, cw, c0, ⟨ar, aV, rfl, rfl, an⟩, q⟩
section
variable {P : Program} {R : aI} {s : aC} {ops : Array Oper} {dr : Option (List Nat)} {ty : Nat} {pos : String} {after : Array Edge} {guard : Option (Nat × Bool)} {K : aI → aC → Prop} {rest : List Oper}
def kT (dst : Option Nat) (n : Nat) : Bool := match dst with
 | some d => Nat.blt d n
 | none => true
theorem L1 {dst : Option Nat} {n : Nat} (h : kT dst n = true) : ∀ d, dst = some d → d < n := fun d e => by subst e; simpa [kT, Nat.blt_eq] using h
theorem u7 {dst : Option Nat} {f : FuncId} {g : Operand} {aM : Array TypeId} {l : List Operand} {args : List ah} {m0 : Mem} {R0 : aI} {Post : ah → Mem → aI → Prop} [E : Enters P f] (hw : want ops ⟨dst, .call ⟨.value g, l.toArray, aM⟩, ty, pos, after, guard⟩ s = some true) (hm : dY dr ⟨dst, .call ⟨.value g, l.toArray, aM⟩, ty, pos, after, guard⟩ = true)
  (aq : s.look g = some (aQ (.func (.func f) #[] #[]))) (aJ : l.map s.look = args.map some) (hp : da P f args m0 R0 Post) (aA : ∀ x ∈ args, ∀ j, x.owns j → ∃ cs, m0 j = some cs) (pO : ∀ k cs, m0 k = some cs → s.mem k = some cs ∧ (pb dr k = true ∨ ∀ r aG ay, Post r aG ay → aG k = some cs)) (ap : bz R0 R) (fF : ∀ k cs x j, m0 k = some cs → x ∈ cs → x.owns j → ∃ ar, m0 j = some ar) (hd : kT dst s.n = true)
  (h : ∀ r aG ay, Post r aG ay → (∀ k ar, aG k = some ar → (∃ cs, m0 k = some cs) ∨ (s.mem k = none ∧ k < s.n)) ∧ cJ P ops dr K rest (bP ay R) ((s.over aG).put dst r)) : cJ P ops dr K (⟨dst, .call ⟨.value g, l.toArray, aM⟩, ty, pos, after, guard⟩ :: rest) R s := by
 refine ⟨true, hw, L1 hd, .inr (.inr (.inr (.inr (.inl ⟨rfl, hm, f, args, m0, R0, Post, ⟨⟨_, g, rfl, rfl, .inl ⟨[], aq, ?_, rfl⟩⟩, E.h⟩, hp, aA, pO, ap, fF, fun r aG ay h1 _ _ _ => h r aG ay h1⟩))))⟩;simpa using aJ
theorem NN (k i : Nat) {dst : Option Nat} {f : FuncId} {g : Operand} {aM : Array TypeId} {l : List Operand} {args : List ah} {cs : List AC} {r : bE} {post : ah → List AC → bE → Prop} [E : Enters P f] (hw : want ops ⟨dst, .call ⟨.value g, l.toArray, aM⟩, ty, pos, after, guard⟩ s = some true) (hm : dY dr ⟨dst, .call ⟨.value g, l.toArray, aM⟩, ty, pos, after, guard⟩ = true)
  (aq : s.look g = some (aQ (.func (.func f) #[] #[]))) (aJ : l.map s.look = (ah.w (.one (.own k 0)) :: args).map some) (hp : qn P f args cs r post) (af : s.mem k = some cs) (hD : pb dr k = true ∨ ∀ v ar aV, post v ar aV → ar = cs) (hi : R i = some r) (al : cs.all AC.aY = true) (eg : args.all ah.aY = true) (hd : kT dst s.n = true)
  (h : ∀ v ar aV, post v ar aV → cJ P ops dr K rest (bG R i aV) ((s.ed k ar).put dst v)) : cJ P ops dr K (⟨dst, .call ⟨.value g, l.toArray, aM⟩, ty, pos, after, guard⟩ :: rest) R s := by
 refine u7 hw hm aq aJ (hp k i) (fun x aa j ae => ?_) (fun k' ar aK => ?_) (fun fs aV aK => ?_) (fun k' ar x j aK aa ae => ?_) hd ?_
 ·rcases gj.1 aa with rfl | aa
  ·obtain ⟨y, ai, ae⟩ := ae;simp [bx.cells] at ai;subst ai;cases ae;exact ⟨cs, by unfold cG; exact cl _ _ _⟩
  ·exact absurd ae (ah.dq (b6.1 eg x aa) j)
 ·obtain ⟨rfl, rfl⟩ := hG aK;refine ⟨af, hD.imp id fun hu => ?_⟩;rintro v aG ay ⟨ar, aV, rfl, rfl, an⟩;rw [hu v ar aV an]; unfold cG; exact cl _ _ _
 ·obtain ⟨rfl, rfl⟩ := fI aK; exact hi
 ·obtain ⟨rfl, rfl⟩ := hG aK;exact absurd ae (AC.dq (b6.1 al x aa) j)
 ·rintro v aG ay ⟨ar, aV, rfl, rfl, an⟩;refine ⟨fun k' c aK => ?_, ?_⟩
  ·obtain ⟨rfl, rfl⟩ := hG aK;exact .inl ⟨cs, by unfold cG; exact cl _ _ _⟩
  ·have aF : bP (bt i aV) R = bG R i aV := vq R i aV
   have aP : s.over (cG k ar) = s.ed k ar := by
    show ({ s with mem := bP (bG b3 k ar) s.mem } : aC) = { s with mem := bG s.mem k ar };rw [show bP (bG b3 k ar) s.mem = bG s.mem k ar from vq s.mem k ar]
   rw [aF, aP];exact h v ar aV an
theorem r0 (k i : Nat) {dst : Option Nat} {f : FuncId} {g : Operand} {aM : Array TypeId} {l : List Operand} {args : List ah} {cs : List AC} {r : bE} {post : ah → List AC → bE → Prop} [E : Enters P f] (hw : want ops ⟨dst, .call ⟨.value g, l.toArray, aM⟩, ty, pos, after, guard⟩ s = some true) (hm : dY dr ⟨dst, .call ⟨.value g, l.toArray, aM⟩, ty, pos, after, guard⟩ = true)
  (aq : s.look g = some (aQ (.func (.func f) #[] #[]))) (aJ : l.map s.look = (ah.w (.one (.own k 0)) :: args).map some) (hp : qn P f args cs r post) (af : s.mem k = some cs) (hD : pb dr k = true) (hi : R i = some r) (al : cs.all AC.aY = true) (eg : args.all ah.aY = true) (hd : kT dst s.n = true)
  (h : ∀ v ar aV, post v ar aV → cJ P ops dr K rest (bG R i aV) ((s.ed k ar).put dst v)) : cJ P ops dr K (⟨dst, .call ⟨.value g, l.toArray, aM⟩, ty, pos, after, guard⟩ :: rest) R s :=
 NN k i hw hm aq aJ hp af (.inl hD) hi al eg hd h
theorem He (k i : Nat) {dst : Option Nat} {f : FuncId} {g : Operand} {aM : Array TypeId} {l : List Operand} {args : List ah} {cs : List AC} {r : bE} {post : ah → List AC → bE → Prop} [E : Enters P f] (hw : want ops ⟨dst, .call ⟨.value g, l.toArray, aM⟩, ty, pos, after, guard⟩ s = some true) (hm : dY dr ⟨dst, .call ⟨.value g, l.toArray, aM⟩, ty, pos, after, guard⟩ = true)
  (aq : s.look g = some (aQ (.func (.func f) #[] #[]))) (aJ : l.map s.look = (ah.w (.one (.own k 0)) :: args).map some) (hp : qn P f args cs r post) (af : s.mem k = some cs) (hD : ∀ v ar aV, post v ar aV → ar = cs) (hi : R i = some r) (al : cs.all AC.aY = true) (eg : args.all ah.aY = true) (hd : kT dst s.n = true)
  (h : ∀ v ar aV, post v ar aV → cJ P ops dr K rest (bG R i aV) ((s.ed k ar).put dst v)) : cJ P ops dr K (⟨dst, .call ⟨.value g, l.toArray, aM⟩, ty, pos, after, guard⟩ :: rest) R s :=
 NN k i hw hm aq aJ hp af (.inr hD) hi al eg hd h
theorem U1 {x : Operand} {d k off : Nat} {K : aC → Prop} (hw : want ops ⟨some d, .nilCheck x, ty, pos, after, guard⟩ s = some true) (aa : s.look x = some (.w (.one (.own k off)))) (hd : Nat.blt d s.n = true) (h : bc P ops K rest (s.put (some d) (.w (.one (.own k off))))) : bc P ops K (⟨some d, .nilCheck x, ty, pos, after, guard⟩ :: rest) s := by
 refine fS hw ⟨fun _ _ h => (by cases h), fun y ai => ?_, fun U ad W env he => ?_, fun j ae => ⟨x, by simp [Op.operands], _, aa, ae⟩⟩ hd h
 ·simp [Op.operands] at ai;subst ai;exact ⟨_, aa⟩
 ·have hv : env x = .pointer (some ⟨ad k, off, none⟩) := he x (by simp [Op.operands]) _ aa;exact ⟨_, by simp only [execOp, hv]; rfl, rfl⟩
end
section
variable {P : Program}
theorem eo {n : Nat} {cs : List AC} (h : Nat.ble n 1000 = true) : ∀ k ar, cG 1000 cs k = some ar → n ≤ k := fun k ar af => by
 obtain ⟨rfl, _⟩ := hG af;exact dl h
theorem nQ {n : Nat} : ∀ k ar, b3 k = some ar → n ≤ k := fun k ar af => by cases af
theorem qL {fn : Func} {l : List ResultVar} {xs : List bx} {R : aI} {s : aC} {cs ar : List AC} {r aV : bE} {post : ah → List AC → bE → Prop} (ap : fn.results = l.toArray) (h : l.map (iG P s) = xs.map some) (af : s.mem 1000 = some ar) (hi : R 0 = some aV) (al : ar.all AC.aY = true) (aa : (packed xs).aY = true)
  (hp : post (packed xs) ar aV) : tm P fn (cG 1000 cs) (bt 0 r) (fun v aG ay => ∃ ar aV, aG = cG 1000 ar ∧ ay = bt 0 aV ∧ post v ar aV) R s := by
 refine ⟨xs, packed xs, cG 1000 ar, bt 0 aV, by rw [ap]; exact h, .refl _, ⟨ar, aV, rfl, rfl, hp⟩, fun k c h => ?_, fun i q h => ?_, fun j ae => absurd ae (ah.dq aa j), fun k c x j h aa ae => ?_, fun k c h => ?_, fun i q h => ?_⟩
 ·obtain ⟨rfl, rfl⟩ := hG h; exact af
 ·obtain ⟨rfl, rfl⟩ := fI h; exact hi
 ·obtain ⟨rfl, rfl⟩ := hG h; exact absurd ae (AC.dq (b6.1 al x aa) j)
 ·obtain ⟨rfl, rfl⟩ := hG h; exact ⟨ar, by unfold cG; exact cl _ _ _⟩
 ·obtain ⟨rfl, rfl⟩ := fI h; exact ⟨aV, by unfold bt; exact cl _ _ _⟩
def AC.xj (k : Nat) : AC → Bool
 | .own j _ => Nat.beq j k
 | _ => true
def ah.xj (k : Nat) : ah → Bool
 | .w x => x.cells.all (AC.xj k)
 | .cn xs => xs.all fun x => x.cells.all (AC.xj k)
theorem ah.acH {k j : Nat} {x : ah} (h : x.xj k = true) (ae : x.owns j) : j = k := by
 have key : ∀ y : bx, y.cells.all (AC.xj k) = true → y.owns j → j = k := by
  rintro y ai ⟨z, aN, zo⟩;have := b6.1 ai z aN;cases z with
  | own i o => cases zo; exact hr this
  | c v => cases zo
  | p R => cases zo
 cases x with
 | w y => exact key y h ae
 | cn xs =>
  obtain ⟨y, ai, lT⟩ := ae;exact key y (b6.1 h y ai) lT
end
abbrev ag8 : ah := aQ (.slice none 0 0)
theorem PD (z : Nat) : ag8.aS (cM z 0 []) := fun U ad W v h => by
 obtain ⟨rfl, _⟩ := h;exact ⟨⟨none, 0, rfl, dE _, by simp, fun h => absurd h (Nat.lt_irrefl _)⟩, fun b ⟨c, a, q, ax, _⟩ => absurd ax (Nat.lt_irrefl _)⟩
section
variable {P : Program} {R : aI} {s : aC} {ops : Array Oper} {dr : Option (List Nat)} {ty : Nat} {pos : String} {after : Array Edge} {guard : Option (Nat × Bool)} {K : aI → aC → Prop} {rest : List Oper}
end
end Go.Proofs.YtbcecodakfejaaaGreat
namespace Go.Proofs.YtbcecodakfejaaaGreat
def gR : List Int → Int → Int
 | [], x => x
 | d :: ds, x => d + 10000 * gR ds x
def bM (ds : List Int) : Int := gR ds 0
def dG (ds : List Int) : Prop := ∀ d ∈ ds, 0 ≤ d ∧ d < 10000
def hi (ds : List Int) (k : Nat) : Int := bM (ds.drop k)
def qm (ds : List Int) : Prop := 0 < ds.length → ds.getD (ds.length - 1) 0 ≠ 0
theorem FF (a b : List Int) (x : Int) : gR (a ++ b) x = gR a (gR b x) := by
 induction a with
 | nil => rfl
 | cons d ds bI => simp only [List.cons_append, gR, bI]
theorem wv (a : List Int) (d x : Int) : gR (a ++ [d]) x = gR a (d + 10000 * x) := FF a [d] x
theorem dG.tail {d : Int} {ds : List Int} (h : dG (d :: ds)) : dG ds := fun x aa => h x (k5 _ aa)
theorem dG.head {d : Int} {ds : List Int} (h : dG (d :: ds)) : 0 ≤ d ∧ d < 10000 := h d jd
theorem dG.nil : dG [] := fun d h => by cases h
theorem dG.snoc {ds : List Int} {d : Int} (h : dG ds) (az : 0 ≤ d) (h1 : d < 10000) : dG (ds ++ [d]) := by
 intro x aa;rcases jS.1 aa with k | k
 ·exact h x k
 ·obtain rfl : x = d := by simpa using k
  exact ⟨az, h1⟩
theorem dG.take {ds : List Int} (h : dG ds) (k : Nat) : dG (ds.take k) := fun x aa => h x (mI aa)
theorem dG.drop {ds : List Int} (h : dG ds) (k : Nat) : dG (ds.drop k) := fun x aa => h x (mJ aa)
theorem dG.set {ds : List Int} (h : dG ds) (k : Nat) {d : Int} (az : 0 ≤ d) (h1 : d < 10000) : dG (ds.set k d) := by
 intro x aa;rcases List.mem_or_eq_of_mem_set aa with k | k
 ·exact h x k
 ·exact k ▸ ⟨az, h1⟩
theorem dG.getD {ds : List Int} (h : dG ds) (k : Nat) : 0 ≤ ds.getD k 0 ∧ ds.getD k 0 < 10000 := by
 by_cases e : k < ds.length
 ·rw [fX, bJ e];exact h _ (List.getElem_mem e)
 ·rw [fX, l7 (by omega)];exact ⟨by decide, by decide⟩
theorem WE {a : List Int} (h : dG a) {x : Int} (aa : x < 0) : gR a x < 0 := by
 induction a with
 | nil => exact aa
 | cons d ds bI => have := h.head; have := bI h.tail; simp only [gR]; omega
theorem WG {a : List Int} (h : dG a) {x : Int} (aa : 0 ≤ x) : 0 ≤ gR a x := by
 induction a with
 | nil => exact aa
 | cons d ds bI => have := h.head; have := bI h.tail; simp only [gR]; omega
theorem wu {a : List Int} (h : dG a) : 0 ≤ bM a := WG h (by omega)
theorem YP {a : List Int} (h : dG a) (k : Nat) : 0 ≤ hi a k := wu (h.drop k)
theorem BA (d : Int) (ds : List Int) : bM (d :: ds) = d + 10000 * bM ds := rfl
theorem L2 : bM [] = 0 := rfl
theorem rT (a : List Int) : hi a 0 = bM a := rfl
theorem nb (a : List Int) (k : Nat) : hi a k = a.getD k 0 + 10000 * hi a (k + 1) := by
 unfold hi
 by_cases e : k < a.length
 ·rw [mG e, BA, fX, bJ e]; rfl
 ·rw [List.drop_eq_nil_of_le (by omega), List.drop_eq_nil_of_le (by omega), fX, l7 (by omega)]; rfl
theorem rS (a : List Int) {k : Nat} (h : a.length ≤ k) : hi a k = 0 := by
 unfold hi; rw [List.drop_eq_nil_of_le h]; rfl
theorem WB (a : List Int) (k : Nat) : gR (a.take k) (hi a k) = bM a := by
 unfold hi bM; rw [← FF, ju]
theorem WA {ds : List Int} (h : dG ds) : bM ds < 10000 ^ ds.length := by
 induction ds with
 | nil => decide
 | cons d ds bI => have := h.head; have := bI h.tail; rw [BA, jQ, oe]; omega
theorem QX (k : Nat) : (0 : Int) < 10000 ^ k := gp (by decide)
theorem QW {k j : Nat} (h : k ≤ j) : (10000 : Int) ^ k ≤ 10000 ^ j := by
 obtain ⟨d, rfl⟩ := Nat.exists_eq_add_of_le h;clear h
 induction d with
 | zero => exact mH _
 | succ d bI => have := QX (k + d); rw [← Nat.add_assoc, oe]; omega
theorem ab6 {ds : List Int} (h : dG ds) (n : qm ds) (k : Nat) (e : ds.length = k + 1) : (10000 : Int) ^ k ≤ bM ds := by
 induction ds generalizing k with
 | nil => cases e
 | cons d ds bI =>
  rw [BA];have aR := h.head;cases k with
  | zero =>
   obtain rfl : ds = [] := jv (by simpa using e);have := n (by simp);simp at this;show (1 : Int) ≤ _;rw [L2];omega
  | succ k =>
   have ak : ds.length = k + 1 := by simpa using e
   have n' : qm ds := by
    intro hp;have := n (by simp);rw [jQ, ak] at this;rw [ak];simpa using this
   have := bI h.tail n' k ak;rw [oe];omega
theorem PE {ds : List Int} (h : dG ds) (n : qm ds) {k : Nat} (af : bM ds < 10000 ^ k) : ds.length ≤ k := by
 rcases hZ k ds.length with bb | kx
 ·exfalso;obtain ⟨j, ae⟩ : ∃ j, ds.length = j + 1 := ⟨ds.length - 1, by omega⟩;have h1 := ab6 h n j ae;have h2 : (10000 : Int) ^ k ≤ 10000 ^ j := QW (by omega);omega
 ·exact kx
theorem ab9 {ds : List Int} (h : dG ds) (n : qm ds) (e : bM ds = 0) : ds = [] := by
 have := PE h n (k := 0) (by rw [e]; decide);exact jv (by omega)
theorem ab7 : qm [] := fun h => by cases h
theorem R6 (k : Nat) : ∀ {a b : List Int}, dG a → dG b → a.getD k 0 < b.getD k 0 → hi a (k + 1) = hi b (k + 1) → bM a < bM b := by
 induction k with
 | zero =>
  intro a b aJ ab h e;have h1 := nb a 0; have h2 := nb b 0;rw [rT] at h1 h2;have := aJ.getD 0; have := ab.getD 0;simp only [je] at *;omega
 | succ k bI =>
  intro a b aJ ab h e;have h1 := nb a 0; have h2 := nb b 0;rw [rT] at h1 h2;have t1 : hi a (0 + 1) = bM (a.drop 1) := rfl;have t2 : hi b (0 + 1) = bM (b.drop 1) := rfl
  have := bI (aJ.drop 1) (ab.drop 1) (by
   rw [fX, fX, fP, fP, Nat.add_comm 1 k];rw [fX, fX] at h;exact h) (by
   unfold hi at *;rw [re, re, Nat.add_comm 1 (k + 1)];exact e)
  have := aJ.getD 0; have := ab.getD 0;omega
theorem aes {out a b : List Int} {k : Nat} {c : Int} {T : Int} (h : gR out (c + hi a k + hi b k) = T) :
  gR (out ++ [(c + a.getD k 0 + b.getD k 0) % 10000]) ((c + a.getD k 0 + b.getD k 0) / 10000 + hi a (k + 1) + hi b (k + 1)) = T := by
 rw [wv, ← h];congr 1;have := nb a k; have := nb b k;omega
theorem abz {out a b : List Int} {k : Nat} {c x : Int} {T : Int} (h : gR out (hi a k - hi b k - c) = T) {c' : Int} (aa : x - 10000 * c' = a.getD k 0 - b.getD k 0 - c) :
  gR (out ++ [x]) (hi a (k + 1) - hi b (k + 1) - c') = T := by
 rw [wv, ← h];congr 1;have := nb a k; have := nb b k;omega
theorem abv {out a b : List Int} {c : Int} (aA : dG out) (ab : dG b) (al : 0 ≤ c) (hle : bM b ≤ bM a) (h : gR out (hi a a.length - hi b a.length - c) = bM a - bM b) : bM out = bM a - bM b := by
 rw [rS a (dE _)] at h;have h1 := YP ab a.length
 by_cases e : hi b a.length + c = 0
 ·rw [show (0 - hi b a.length - c) = 0 by omega] at h;exact h
 ·have := WE aA (x := 0 - hi b a.length - c) (by omega);omega
end Go.Proofs.YtbcecodakfejaaaGreat
namespace Go.Proofs.YtbcecodakfejaaaGreat
theorem Xq {o : List Int} {k : Nat} (af : k < o.length) (d : Int) : (o.set k d).getD k 0 = d := by
 rw [fX, List.getElem?_set_self af]; rfl
theorem getD_set_ne {o : List Int} {k j : Nat} (h : k ≠ j) (d : Int) : (o.set k d).getD j 0 = o.getD j 0 := by
 rw [fX, List.getElem?_set_ne h, fX]
theorem YQ {o : List Int} {k j : Nat} (h : k < j) (d : Int) : hi (o.set k d) j = hi o j := by
 unfold hi; rw [List.drop_set_of_lt h]
theorem Si {o : List Int} {k j : Nat} (h : j ≤ k) (d : Int) : (o.set k d).take j = o.take j := by
 rw [List.take_set_of_le h]
theorem Ji {o : List Int} {k : Nat} (h : k < o.length) : o.take (k + 1) = o.take k ++ [o.getD k 0] := by
 rw [jT h, fX, bJ h]; rfl
def qY (o : List Int) (i k : Nat) : List Int := (o.drop i).take k
theorem abu {o : List Int} {i k : Nat} (h : i + k < o.length) : qY o i (k + 1) = qY o i k ++ [o.getD (i + k) 0] := by
 unfold qY;rw [Ji (by rw [h0]; omega)];congr 2;rw [fX, fP, fX]
theorem abt {o : List Int} {i k : Nat} (d : Int) : qY (o.set (i + k) d) i k = qY o i k := by
 unfold qY;rw [List.drop_set, if_neg (by omega), Si (by omega)]
theorem mid_zero (o : List Int) (i : Nat) : qY o i 0 = [] := rfl
theorem YO (o : List Int) (i k : Nat) : gR (qY o i k) (hi o (i + k)) = hi o i := by
 unfold qY hi bM;rw [← re, ← FF, ju]
def sN (o : List Int) (i k : Nat) (c x : Int) (b : List Int) (T : Int) : Prop := gR (qY o i k) (hi o (i + k) + c + x * hi b k) = T
theorem abJ (o : List Int) (i : Nat) (x : Int) (b : List Int) : sN o i 0 0 x b (hi o i + x * bM b) := by
 unfold sN;rw [mid_zero, rT];show hi o i + 0 + x * bM b = _;rw [Int.add_zero]
theorem abK {o : List Int} {i k : Nat} {c x : Int} {b : List Int} {T : Int} (h : sN o i k c x b T) (af : i + k < o.length) {s : Int} (hs : s = c + o.getD (i + k) 0 + x * b.getD k 0) :
  sN (o.set (i + k) (s % 10000)) i (k + 1) (s / 10000) x b T := by
 unfold sN at *;rw [abu (by rw [List.length_set]; exact af), abt, Xq af, wv, ← h, YQ (by omega)];congr 1;have h1 := nb o (i + k);have h2 := nb b k;have ao : x * hi b k = x * b.getD k 0 + 10000 * (x * hi b (k + 1)) := by rw [h2, Int.mul_add, Int.mul_left_comm]
 rw [ao, ← Nat.add_assoc];generalize x * hi b (k + 1) = u at *;generalize x * b.getD k 0 = v at *;omega
theorem abI {o : List Int} {i k : Nat} {x : Int} {b : List Int} {T : Int} (h : sN o i k 0 x b T) (af : b.length ≤ k) : hi o i = T := by
 unfold sN at h;rw [rS b af, Int.mul_zero, Int.add_zero, Int.add_zero, YO] at h;exact h
def sO (o a b : List Int) (i : Nat) : Prop := gR (o.take i) (hi o i + hi a i * bM b) = bM a * bM b
theorem abM {o a b : List Int} (h : bM o = 0) : sO o a b 0 := by
 unfold sO;rw [rT, rT, h, Int.zero_add]; rfl
theorem abN {o eV a b : List Int} {i : Nat} (h : sO o a b i) (ak : i < eV.length) (aB : eV.take i = o.take i) (he : hi eV i = hi o i + a.getD i 0 * bM b) : sO eV a b (i + 1) := by
 unfold sO at *;rw [Ji ak, wv, aB, ← h];congr 1;have h1 := nb eV i;have h2 : hi a i * bM b = a.getD i 0 * bM b + 10000 * (hi a (i + 1) * bM b) := by rw [nb a i, Int.add_mul, ki]
 rw [h2];generalize hi a (i + 1) * bM b = u at *;generalize a.getD i 0 * bM b = v at *;omega
theorem abL {o a b : List Int} {i : Nat} (h : sO o a b i) (ak : a.length ≤ i) : bM o = bM a * bM b := by
 unfold sO at h;rw [rS a ak, Int.zero_mul, Int.add_zero, WB] at h;exact h
theorem WC (n : Nat) : bM (List.replicate n 0) = 0 := by
 induction n with
 | zero => rfl
 | succ n bI => rw [List.replicate_succ, BA, bI]; rfl
theorem Z5 (n : Nat) : dG (List.replicate n 0) := by
 intro d hd;obtain rfl : d = 0 := List.eq_of_mem_replicate hd;exact ⟨by decide, by decide⟩
theorem Xr (n k : Nat) : (List.replicate n (0 : Int)).getD k 0 = 0 := by
 rw [fX, List.getElem?_replicate]
 split <;> rfl
theorem LX {x y : Int} (aa : 0 ≤ x ∧ x < 10000) (ai : 0 ≤ y ∧ y < 10000) : 0 ≤ x * y ∧ x * y ≤ 99980001 := by
 refine ⟨fY aa.1 ai.1, ?_⟩;have h1 : x * y ≤ 9999 * y := nA (by omega) ai.1;omega
def hL (neg : Bool) (n : Int) : Int := if neg then -n else n
theorem RZ (n : Int) : hL false n = n := rfl
theorem I7 (n : Int) : hL true n = -n := rfl
structure Std (neg : Bool) (ds : List Int) (n : Int) : Prop where
 dg : dG ds
 tF : qm ds
 sign : neg = true → ds ≠ []
 val : n = hL neg (bM ds)
theorem Std.pos {neg : Bool} {ds : List Int} {n : Int} (h : Std neg ds n) (ax : ds ≠ []) : 0 < bM ds := by
 have h1 := wu h.dg;rcases Int.lt_or_eq_of_le h1 with k | k
 ·exact k
 ·exact absurd (ab9 h.dg h.tF k.symm) ax
theorem Std.H8 {neg : Bool} {ds : List Int} {n : Int} (h : Std neg ds n) : neg = decide (n < 0) := by
 have h1 := wu h.dg;have hv := h.val;cases neg with
 | false => rw [RZ] at hv; symm; rw [iE]; omega
 | true => have := h.pos (h.sign rfl); rw [I7] at hv; symm; rw [b4]; omega
theorem Std.abs {neg : Bool} {ds : List Int} {n : Int} (h : Std neg ds n) : bM ds = n.natAbs := by
 have h1 := wu h.dg;have hv := h.val;cases neg with
 | false => rw [RZ] at hv; omega
 | true => rw [I7] at hv; omega
theorem Std.len {neg : Bool} {ds : List Int} {n : Int} (h : Std neg ds n) {k : Nat} (af : (n.natAbs : Int) < 10000 ^ k) : ds.length ≤ k := PE h.dg h.tF (by rw [h.abs]; exact af)
theorem agz {neg : Bool} {ds : List Int} {k : Nat} (hd : dG ds) (hv : bM (ds.take k) = bM ds) (ax : qm (ds.take k)) : Std (neg && decide (0 < (ds.take k).length)) (ds.take k) (hL neg (bM ds)) := by
 refine ⟨hd.take k, ax, fun h => ?_, ?_⟩
 ·simp only [c5, b4] at h;intro e;rw [e] at h;exact absurd h.2 (by decide)
 ·rw [hv]
  by_cases e : 0 < (ds.take k).length
  ·rw [bZ e, Bool.and_true]
  ·have : ds.take k = [] := jv (by omega);rw [this, L2] at hv;rw [← hv];cases neg <;> simp [hL]
end Go.Proofs.YtbcecodakfejaaaGreat
namespace Go.Proofs.YtbcecodakfejaaaGreat
open Go.RowKit
def fc (w : World) (A : Option Addr) (l c : Nat) (ds : List Int) : Prop :=
 ds.length = l ∧ l ≤ c ∧ c ≤ 9223372036854775807 ∧ (0 < l → ∃ g, A = some ⟨g, 0, none⟩ ∧ g < w.heap.size ∧ ∀ j, j < l → w.cell? ⟨g, j, none⟩ = some (.int .i64 (ds.getD j 0)))
theorem fc.call {w w' : World} {A : Option Addr} {l c : Nat} {ds : List Int} (h : fc w A l c ds) (ab : Below w.heap.size w w') : fc w' A l c ds := by
 obtain ⟨h1, h2, ao, k⟩ := h;refine ⟨h1, h2, ao, fun bU => ?_⟩;obtain ⟨g, rfl, aq, al⟩ := k bU;exact ⟨g, rfl, sn aq ab.size, fun j ae => (ab.cell (p := ⟨g, j, none⟩) aq).trans (al j ae)⟩
theorem fc.alloc {w : World} {A : Option Addr} {l c : Nat} {ds : List Int} (h : fc w A l c ds) (o : Obj) : fc (w.alloc o) A l c ds := h.call ((Below.refl _ _).alloc (dE _) o)
theorem fc.take {w : World} {A : Option Addr} {l c : Nat} {ds : List Int} (h : fc w A l c ds) {k : Nat} (af : k ≤ l) : fc w A k c (ds.take k) := by
 obtain ⟨h1, h2, ao, aD⟩ := h;refine ⟨by rw [dX]; omega, by omega, ao, fun hp => ?_⟩;obtain ⟨g, e, aq, al⟩ := aD (by omega);refine ⟨g, e, aq, fun j ae => ?_⟩;rw [al j (by omega), fX, fX, fw ae]
theorem fc.own {w : World} {base : Nat} {v : Value} {n : Nat} {ds : List Int} (h : w.ownsRow base 3 1 v n (ds.map (Value.int .i64))) : ∃ A c, v = .slice A n c ∧ fc w A n c ds := by
 have ak : ds.length = n := by have := h.1; simpa using this
 have aR := h;rcases h.2 with ⟨rfl, rfl⟩ | ⟨g, cap, cur, rfl, ab, aq, ax, hm, hs, aB⟩
 ·exact ⟨none, 0, rfl, ak, dE _, by omega, fun k => absurd k (by omega)⟩
 ·refine ⟨_, cap, rfl, ak, ax, by simpa [maxLen] using hm, fun _ => ⟨g, rfl, (jU.1 aq).1, fun j ae => ?_⟩⟩;rw [aR.cellAt j (by omega), eh, bJ (by omega), fX, bJ (by omega)];rfl
def er (w : World) (neg : Bool) (A : Option Addr) (l c : Nat) (n : Int) : Prop := ∃ ds, fc w A l c ds ∧ Std neg ds n
theorem er.call {w w' : World} {neg : Bool} {A : Option Addr} {l c : Nat} {n : Int} (h : er w neg A l c n) (ab : Below w.heap.size w w') : er w' neg A l c n := by
 obtain ⟨ds, h1, h2⟩ := h;exact ⟨ds, h1.call ab, h2⟩
theorem er.H8 {w : World} {neg : Bool} {A : Option Addr} {l c : Nat} {n : Int} (h : er w neg A l c n) : neg = decide (n < 0) := by
 obtain ⟨ds, h1, h2⟩ := h;exact h2.H8
theorem er.len {w : World} {neg : Bool} {A : Option Addr} {l c : Nat} {n : Int} (h : er w neg A l c n) {k : Nat} (af : (n.natAbs : Int) < 10000 ^ k) : l ≤ k := by
 obtain ⟨ds, h1, h2⟩ := h;rw [← h1.1];exact h2.len af
def Fr (b : Nat) (A : Option Addr) : Prop := ∀ a, A = some a → b ≤ a.block
def qo (n : Int) (w : World) (e : Ending) (w' : World) : Prop := ∃ neg A l c, e = .returned (.agg #[.bool neg, .slice A l c]) ∧ er w' neg A l c n ∧ Below w.heap.size w w' ∧ Fr w.heap.size A
def A2 (n : Int) (k : Nat) (w : World) (e : Ending) (w' : World) : Prop := ∃ A l c ds, e = .returned (.slice A l c) ∧ fc w' A l c ds ∧ dG ds ∧ bM ds = n ∧ l ≤ k ∧ Below w.heap.size w w' ∧ Fr w.heap.size A
def J5 (n : Int) (A : Option Addr) (c : Nat) (w : World) (e : Ending) (w' : World) : Prop := ∃ neg l, e = .returned (.agg #[.bool neg, .slice A l c]) ∧ er w' neg A l c n ∧ Below w.heap.size w w'
theorem Fr.own {w : World} {base : Nat} {t : TypeId} {A : Option Addr} {n c : Nat} {xs : List Value} (h : w.ownsRow base t 1 (.slice A n c) n xs) : Fr base A := fun a e => by
 subst e;exact (h.lt a.block rfl).1
theorem Bi (w : World) : Calls ag 116 #[] w fun e w' => e = .returned (.int .i64 10000) ∧ w = w' := by
 go_enter Tryz.func116, Tryz.ntmps116
 go_wp2
 go_ret
 exact ⟨rfl, rfl⟩
theorem wq (A : Option Addr) (l c : Nat) (ds : List Int) (k : Nat) (w : World) (h : fc w A l c ds) (ak : l ≤ 1000) (af : k ≤ 1000) :
  Calls ag 115 #[.slice A l c, .int .i64 k] w fun e w' => e = .returned (.int .i64 (ds.getD k 0)) ∧ w = w' := by
 obtain ⟨h1, h2, ao, aD⟩ := h
 by_cases bb : k < l
 ·obtain ⟨g, rfl, aq, jq⟩ := aD (by omega);have eI := jq k bb;generalize ds.getD k 0 = d at *;clear aD jq h1
  go_enter Tryz.func115, Tryz.ntmps115
  go_wp2
  go_ret
  exact ⟨rfl, rfl⟩
 ·have lK : Hid (ds.getD k 0 = 0) := by unfold Hid; simp [fX, l7 (show ds.length ≤ k by omega)]
  clear aD h1
  go_enter Tryz.func115, Tryz.ntmps115
  go_wp2
  go_ret
  rw [lK.out];exact ⟨rfl, rfl⟩
end Go.Proofs.YtbcecodakfejaaaGreat
namespace Go.Proofs.YtbcecodakfejaaaGreat
open Go.RowKit
def Lr : Value → Nat
 | .slice _ k _ => k
 | _ => 0
theorem IM {neg : Bool} {A : Option Addr} {l c k : Nat} {ds : List Int} {w w' : World} (h : fc w A l c ds) (hd : dG ds) (af : k ≤ l) (hv : bM (ds.take k) = bM ds) (aN : 0 < k → ds.getD (k - 1) 0 ≠ 0)
  (ab : Below w.heap.size w w') {x : Bool} (aa : x = (neg && decide (0 < k))) : J5 (hL neg (bM ds)) A c w (.returned (.agg #[.bool x, .slice A k c])) w' := by
 have ak : (ds.take k).length = k := by rw [dX, h.1]; omega
 have ax : qm (ds.take k) := by
  intro hp;rw [ak] at hp ⊢;rw [fX, fw (by omega), ← fX];exact aN hp
 have hs := agz (neg := neg) hd hv ax;rw [ak] at hs;exact ⟨_, _, by rw [aa], ⟨_, (h.take af).call ab, hs⟩, ab⟩
theorem agT {ds : List Int} {k l : Nat} (ak : ds.length = l) (af : k + 1 ≤ l) (hv : bM (ds.take (k + 1)) = bM ds) (aN : ds.getD k 0 = 0) : bM (ds.take k) = bM ds := by
 rw [Ji (by omega), aN] at hv;unfold bM at *;rw [wv] at hv;simpa using hv
theorem Ar (neg : Bool) (A : Option Addr) (l c : Nat) (ds : List Int) (w : World) (h : fc w A l c ds) (hd : dG ds) (ak : l ≤ 1000) :
  Calls ag 110 #[.agg #[.bool neg, .slice A l c]] w (J5 (hL neg (bM ds)) A c w) := by
 obtain ⟨h1, h2, ao, aD⟩ := id h
 have bb : ∀ k, k + 1 ≤ l → ∃ g, A = some ⟨g, 0, none⟩ ∧ g < w.heap.size ∧ w.cell? ⟨g, k, none⟩ = some (.int .i64 (ds.getD k 0)) := fun k af => by
  obtain ⟨g, e, aq, al⟩ := aD (by omega);exact ⟨g, e, aq, al k (by omega)⟩
 have H1 := Lib.hid h1;have EH := Lib.hid bb;clear h1 bb aD
 go_enter Tryz.func110, Tryz.ntmps110
 go_wp2
 go_loop [3] (fun d => ∃ k : Nat, k ≤ l ∧ d = .slice A k c ∧ Hid (bM (ds.take k) = bM ds)) (fun d => Lr d)
 case atStart => exact ⟨l, dE _, rfl, by unfold Hid; rw [gn (by rw [H1.out]; omega)]⟩
 case round =>
  obtain ⟨k, af, rfl, hv⟩ := hrel;rcases k with _ | k
  ·go_wp2
   all_goals
    refine bodyPost_ret (v := .agg #[.bool false, .slice A 0 c]) (by simp only [results, Tryz.results110]; go_simp) rfl (IM h hd af hv.out (fun h => absurd h (by omega)) ?_ (by simp));(repeat first | with_reducible exact Below.refl _ _ | with_reducible refine dP ?_ _)
  ·obtain ⟨g, rfl, aq, al⟩ := EH.out k af
   by_cases aN : ds.getD k 0 = 0
   ·have bQ : Hid (bM (ds.take k) = bM ds) := agT H1.out af hv.out aN;rw [aN] at al;clear aN
    go_wp2
    go_round
    case rel => exact ⟨k, by omega, by simp, bQ⟩
    case measure => simp [Lr]
   ·have tx := Lib.hid aN;have bU : (ds.getD k 0 == 0) = false := by simpa using aN
    clear aN;generalize kv : ds.getD k 0 = d at al bU;have mS := Lib.hid kv;clear kv
    go_wp2
    ·refine bodyPost_ret (v := .agg #[.bool true, .slice (some ⟨g, 0, none⟩) (k + 1) c]) (by simp only [results, Tryz.results110]; go_simp) rfl (IM (neg := true) h hd af hv.out (fun _ => tx.out) ?_ (by simp));(repeat first | with_reducible exact Below.refl _ _ | with_reducible refine dP ?_ _)
    ·refine bodyPost_ret (v := .agg #[.bool false, .slice (some ⟨g, 0, none⟩) (k + 1) c]) (by simp only [results, Tryz.results110]; go_simp) rfl (IM (neg := false) h hd af hv.out (fun _ => tx.out) ?_ (by simp));(repeat first | with_reducible exact Below.refl _ _ | with_reducible refine dP ?_ _)
theorem agU (neg : Bool) (A : Option Addr) (l c : Nat) (ds : List Int) (w : World) (h : fc w A l c ds) (hd : dG ds) (ak : l ≤ 1000) :
  Calls ag 110 #[.agg #[.bool neg, .slice A l c]] w fun e w' => ∃ x cE, e = .returned (.agg #[.bool x, .slice A cE c]) ∧ er w' x A cE c (hL neg (bM ds)) ∧ cE ≤ l ∧ Below w.heap.size w w' :=
 (Ar neg A l c ds w h hd ak).mono fun _ _ ⟨x, cE, h1, h2, ao⟩ => ⟨x, cE, h1, h2, h2.len (by
  have a := WA hd;have b := wu hd;rw [h.1] at a;cases neg <;> simp only [hL, if_true, nz, if_false] <;> omega), ao⟩
end Go.Proofs.YtbcecodakfejaaaGreat
namespace Go.Proofs.YtbcecodakfejaaaGreat
open Go.RowKit
theorem N4 {a b : Int} (h : a < b) : cj a b = -1 := by unfold cj; rw [if_neg (by omega), if_pos h]
theorem N3 {a b : Int} (h : b < a) : cj a b = 1 := by unfold cj; rw [if_neg (by omega), if_neg (by omega)]
theorem ZO {a b : Int} (h : a = b) : cj a b = 0 := by unfold cj; rw [if_pos h]
theorem D7 (A B : Option Addr) (l c m d : Nat) (ds es : List Int) (w : World) (h : fc w A l c ds) (k : fc w B m d es) (hd : dG ds) (he : dG es) (ak : l ≤ 1000) (hm : m ≤ 1000) :
  Calls ag 112 #[.slice A l c, .slice B m d] w fun e w' => e = .returned (.int .i64 (cj (bM ds) (bM es))) ∧ w = w' := by
 have H1 := Lib.hid h.1;have cW := Lib.hid k.1;have j8 := Lib.hid hd;have nX := Lib.hid he;have hs := Lib.hid h;have zz := Lib.hid k;clear hd he h k
 go_enter Tryz.func112, Tryz.ntmps112
 go_wp2
 all_goals
  go_loop [5] (fun i => ∃ k : Nat, i = .int .i64 ((k : Int) - 1) ∧ k ≤ 1000 ∧ Hid (hi ds k = hi es k)) (fun i => (intOf i + 1).toNat)
  case atStart => first
   | exact ⟨l, rfl, by omega, by unfold Hid; rw [rS ds (by rw [H1.out]; omega), rS es (by rw [cW.out]; omega)]⟩
   | exact ⟨m, rfl, by omega, by unfold Hid; rw [rS ds (by rw [H1.out]; omega), rS es (by rw [cW.out]; omega)]⟩
  case round =>
   obtain ⟨k, rfl, af, aR⟩ := hrel;rcases k with _ | k
   ·rw [show (((0 : Nat) : Int) - 1) = -1 from rfl]
    go_wp2
    go_ret
    exact ⟨tZ (ZO aR.out).symm, rfl⟩
   ·rw [show (((k + 1 : Nat) : Int) - 1) = (k : Int) by omega];have g1 := j8.out.getD k;have g2 := nX.out.getD k;have aF := fun h => R6 k j8.out nX.out h aR.out;have aP := fun h => R6 k nX.out j8.out h aR.out.symm;have cr : ds.getD k 0 = es.getD k 0 → hi ds k = hi es k := fun h => by rw [nb ds k, nb es k, h, aR.out]
    have c1 := fun w h => wq A l c ds k w h ak (by omega);have c2 := fun w h => wq B m d es k w h hm (by omega);have iK := Lib.hid aF;have uk := Lib.hid aP;have JE := Lib.hid cr;have aW := Lib.hid c1;have bH := Lib.hid c2;clear aF aP cr c1 c2;generalize ds.getD k 0 = x at *;generalize es.getD k 0 = y at *
    go_wp2_with (go_at_call 115; first | ((with_reducible refine (aW.out _ hs.out).mono ?_); rintro e w' ⟨rfl, rfl⟩) | ((with_reducible refine (bH.out _ zz.out).mono ?_); rintro e w' ⟨rfl, rfl⟩))
    ·go_ret
     exact ⟨tZ (N4 (iK.out (by assumption))).symm, rfl⟩
    ·go_ret
     exact ⟨tZ (N3 (uk.out (by assumption))).symm, rfl⟩
    ·go_round
     case rel => exact ⟨k, rfl, by omega, JE.out (by omega)⟩
     case measure => simp [intOf]
end Go.Proofs.YtbcecodakfejaaaGreat
namespace Go.Proofs.YtbcecodakfejaaaGreat
open Go.RowKit
theorem zq : (ag.info? 3).map (fun i => (i.zero, i.size, i.bytes)) = some (some (.int .i64 0), 1, 8) := by kernel_rfl
structure xZ (w wr : World) (ds es : List Int) (l m : Nat) (v : Value) (c : Int) (k : Nat) (os : List Int) : Prop where
 gQ : 0 ≤ c
 c1 : c ≤ 1
 len : os.length = k
 dg : dG os
 val : gR os (c + hi ds k + hi es k) = bM ds + bM es
 more : 0 < c → k ≤ l ∨ k ≤ m
 top : k ≤ l ∨ k ≤ m + 1 ∨ k ≤ l + 1
 own : wr.ownsRow w.heap.size 3 1 v k (os.map (Value.int .i64))
 below : Below w.heap.size w wr
theorem aer (w : World) (ds es : List Int) (l m : Nat) : xZ w w ds es l m (.slice none 0 0) 0 0 [] :=
 ⟨by omega, by omega, rfl, dG.nil, by show (0 : Int) + _ + _ = _; rw [rT, rT]; omega, fun h => absurd h (by omega), .inl (dx _), World.ownsRow_nil _ _ _ _, Below.refl _ _⟩
theorem aeq {w wr w1 : World} {ds es os : List Int} {l m k : Nat} {v v' : Value} {c : Int} {o : Obj} (h : xZ w wr ds es l m v c k os) (ak : ds.length = l) (hm : es.length = m) (hd : dG ds) (he : dG es)
  (ix : k < l ∨ k < m ∨ 0 < c) {s : Int} (hs : s = c + ds.getD k 0 + es.getD k 0)
  (cD : w1.ownsRow w.heap.size 3 1 v' (k + 1) (os.map (Value.int .i64) ++ [.int .i64 (s % 10000)])) (aq : (wr.alloc o).grownBy w1 v.ownBlock) : xZ w w1 ds es l m v' (s / 10000) (k + 1) (os ++ [s % 10000]) := by
 have g1 := hd.getD k;have g2 := he.getD k;have az := h.gQ; have h1 := h.c1; have Y1 := h.more;have h3 : l ≤ k → ds.getD k 0 = 0 := fun q => by simp [fX, l7 (show ds.length ≤ k by omega)]
 have z2 : m ≤ k → es.getD k 0 = 0 := fun q => by simp [fX, l7 (show es.length ≤ k by omega)]
 refine ⟨by omega, by omega, by rw [cF, h.len]; rfl, h.dg.snoc (by omega) (by omega), by rw [hs]; exact aes h.val, fun q => ?_, ?_, by rw [List.map_append]; exact cD, ?_⟩
 ·by_cases q1 : k < l
  ·exact .inl (by omega)
  ·by_cases q2 : k < m
   ·exact .inr (by omega)
   ·have := h3 (by omega); have := z2 (by omega); omega
 ·rcases ix with q | q | q
  ·exact .inl (by omega)
  ·exact .inr (.inl (by omega))
  ·have := Y1 q; omega
 ·refine (h.below.alloc h.below.size o).grown aq (by have := h.below.size; simp; omega) (fun j ae => (h.own.lt j ae).1)
theorem aep {w wr : World} {ds es os : List Int} {l m k : Nat} {v : Value} {c : Int} (h : xZ w wr ds es l m v c k os) (ak : ds.length = l) (hm : es.length = m) (h1 : l ≤ k) (h2 : m ≤ k) (ao : c ≤ 0) : A2 (bM ds + bM es) (max l m + 1) w (.returned v) wr := by
 obtain ⟨A, c', rfl, eG⟩ := fc.own h.own;have e : c = 0 := by have := h.gQ; omega
 have hv := h.val;rw [e, rS ds (by omega), rS es (by omega)] at hv;exact ⟨A, k, c', os, rfl, eG, h.dg, hv, by have := h.top; omega, h.below, Fr.own h.own⟩
theorem afu (A B : Option Addr) (l c m d : Nat) (ds es : List Int) (w : World) (h : fc w A l c ds) (k : fc w B m d es) (hd : dG ds) (he : dG es) (ak : l ≤ 900) (hm : m ≤ 900) :
  Calls ag 111 #[.slice A l c, .slice B m d] w (A2 (bM ds + bM es) (max l m + 1) w) := by
 obtain ⟨i0, na, kc, nm, kd⟩ := info_parts zq;have H1 := Lib.hid h.1;have cW := Lib.hid k.1;have j8 := Lib.hid hd;have nX := Lib.hid he;have hs := Lib.hid h;have zz := Lib.hid k;have pj := Lib.hid na;have lc := Lib.hid kc;have pk := Lib.hid nm;have pn := Lib.hid kd;clear hd he h k na kc nm kd
 go_enter Tryz.func111, Tryz.ntmps111
 go_wp2
 go_loopw [5, 6, 7] (fun v c i wr => ∃ (k : Nat) (dp : Int) (os : List Int), c = .int .i64 dp ∧ i = .int .i64 k ∧ xZ w wr ds es l m v dp k os) (fun _ _ i _ => 2000 - (intOf i).toNat)
 case atStart => exact ⟨0, 0, [], rfl, rfl, aer w ds es l m⟩
 case round =>
  obtain ⟨k, dp, os, rfl, rfl, ap⟩ := hrel;have fA := ap.gQ;have b1 := ap.c1;have b2 := ap.top;have dm := ap.more;have lK := Lib.hid ap;have aW := Lib.hid (fun w h => wq A l c ds k w h (by omega) (by omega));have bH := Lib.hid (fun w h => wq B m d es k w h (by omega) (by omega));have g1 := j8.out.getD k;have g2 := nX.out.getD k;have BX := Lib.hid (hs.out.call ap.below);have BZ := Lib.hid (zz.out.call ap.below);clear ap;have N := Lib.hid (fun (w1 : World) (v' : Value) (o : Obj) ix cD aq => aeq (w1 := w1) (v' := v') (o := o) lK.out H1.out cW.out j8.out nX.out ix rfl cD aq);generalize ds.getD k 0 = x at *;generalize es.getD k 0 = y at *
  by_cases ix : k < l ∨ k < m ∨ 0 < dp
  ·have YL := Lib.hid ix;have iL := Lib.hid lK.out.own;have c0 : 0 ≤ dp + x + y := by omega
   have bF := lK.out.below.size;have M := Lib.hid (fun w1 v' o => N.out w1 v' o YL.out);clear N;have eu : (l < m ∧ k < m) ∨ (l < m ∧ m ≤ k ∧ 0 < dp) ∨ (m ≤ l ∧ k < l) ∨ (m ≤ l ∧ l ≤ k ∧ 0 < dp) := by omega
   rcases eu with ⟨t1, t2⟩ | ⟨t1, t2, t3⟩ | ⟨t1, t2⟩ | ⟨t1, t2, t3⟩
   all_goals
    go_wp2_with (first
     | (go_at_call 115; first | ((with_reducible refine (aW.out _ BX.out).mono ?_); rintro e w' ⟨rfl, rfl⟩) | ((with_reducible refine (bH.out _ BZ.out).mono ?_); rintro e w' ⟨rfl, rfl⟩))
     | (go_at_call 116; (with_reducible refine (Bi _).mono ?_); rintro e w' ⟨rfl, rfl⟩)
     | (at_builtin; refine wpList_append_own _ rfl _ _ 32 rfl w.heap.size 3 i0 (.int .i64 0) 1 8 Tryz.underlying32 pj.out lc.out pk.out pn.out rfl (by decide) _ _ _ rfl (iL.out.alloc _) ⟨wr.heap.size, 0, none⟩ 1 1 [.int .i64 ((dp + x + y) % 10000)] rfl rfl (cell_one_new _ _ _) (by simp [Value.oneCell']) (by simp only [maxLen]; omega) (by omega) (by simp; omega) ?_; intro v' w1 lq ln pN; clear pN; have R := Lib.hid (M.out w1 v' _ lq ln); clear lq ln))
    all_goals first
     | (exfalso; omega)
     | (refine ⟨⟨k + 1, _, _, rfl, by go_num, R.out⟩, ?_⟩; simp [intOf]; omega)
  ·clear N;have t3 : dp ≤ 0 := by omega
   have t4 : l ≤ k := by omega
   have t5 : m ≤ k := by omega
   rcases hZ l m with YZ | YZ
   all_goals
    go_wp2
    all_goals first
     | (exfalso; omega)
     | (go_ret; exact aep lK.out H1.out cW.out t4 t5 t3)
end Go.Proofs.YtbcecodakfejaaaGreat
namespace Go.Proofs.YtbcecodakfejaaaGreat
open Go.RowKit
theorem Rm {P : Program} {f : FuncId} {args : Array Value} {w : World} {n : Nat} {v : Value}
  (h : Calls P f args (w.drewN n) fun e w' => e = .returned v ∧ w.drewN n = w') : Calls P f args (w.drewN n) fun e ahe => e = .returned v ∧ ∃ m, ahe = w.drewN m :=
 h.mono fun _ _ ⟨he, hm⟩ => ⟨he, n, hm.symm⟩
theorem fc.drewN {w : World} {A : Option Addr} {l c : Nat} {ds : List Int} (h : fc w A l c ds) (n : Nat) : fc (w.drewN n) A l c ds := h
theorem K3 {B : Nat} {a w : World} (h : Below B a w) (n : Nat) : Below B a (w.drewN n) := ⟨h.os, h.tape, h.output, h.size, h.block⟩
structure sM (w wr : World) (ds es : List Int) (l : Nat) (v : Value) (c : Int) (k : Nat) (os : List Int) : Prop where
 gQ : 0 ≤ c
 c1 : c ≤ 1
 len : os.length = k
 dg : dG os
 val : gR os (hi ds k - hi es k - c) = bM ds - bM es
 top : k ≤ l
 own : wr.ownsRow w.heap.size 3 1 v k (os.map (Value.int .i64))
 below : Below w.heap.size w wr
theorem aby (w : World) (ds es : List Int) (l : Nat) : sM w w ds es l (.slice none 0 0) 0 0 [] :=
 ⟨by omega, by omega, rfl, dG.nil, by show hi ds 0 - hi es 0 - 0 = _; rw [rT, rT]; omega, dx _, World.ownsRow_nil _ _ _ _, Below.refl _ _⟩
theorem abx {w wr w1 : World} {ds es os : List Int} {l k : Nat} {v v' : Value} {c : Int} {o : Obj} (h : sM w wr ds es l v c k os)
  (ix : k < l) {x c' : Int} (az : 0 ≤ x) (h1 : x < 10000) (uU : 0 ≤ c') (gd : c' ≤ 1) (hs : x - 10000 * c' = ds.getD k 0 - es.getD k 0 - c)
  (cD : w1.ownsRow w.heap.size 3 1 v' (k + 1) (os.map (Value.int .i64) ++ [.int .i64 x])) (aq : (wr.alloc o).grownBy w1 v.ownBlock) : sM w w1 ds es l v' c' (k + 1) (os ++ [x]) := by
 refine ⟨uU, gd, by rw [cF, h.len]; rfl, h.dg.snoc az h1, abz h.val hs, by omega, by rw [List.map_append]; exact cD, ?_⟩;exact (h.below.alloc h.below.size o).grown aq (by have := h.below.size; simp; omega) (fun j ae => (h.own.lt j ae).1)
theorem abw {w wr : World} {ds es os : List Int} {l k : Nat} {v : Value} {c : Int} (h : sM w wr ds es l v c k os) (ak : ds.length = l) (he : dG es) (h1 : l ≤ k) (hle : bM es ≤ bM ds) : A2 (bM ds - bM es) l w (.returned v) wr := by
 obtain ⟨A, c', rfl, eG⟩ := fc.own h.own;have hv := h.val;have aB := h.top;obtain rfl : k = ds.length := by omega
 exact ⟨A, _, c', os, rfl, eG, h.dg, abv h.dg he h.gQ hle hv, by omega, h.below, Fr.own h.own⟩
theorem sM.drewN {w wr : World} {ds es os : List Int} {l k : Nat} {v : Value} {c : Int} (h : sM w wr ds es l v c k os) (n : Nat) : sM w (wr.drewN n) ds es l v c k os :=
 ⟨h.gQ, h.c1, h.len, h.dg, h.val, h.top, h.own, K3 h.below n⟩
theorem RD (A B : Option Addr) (l c m d : Nat) (ds es : List Int) (w : World) (h : fc w A l c ds) (k : fc w B m d es) (hd : dG ds) (he : dG es) (ak : l ≤ 900) (hm : m ≤ 900) (hle : bM es ≤ bM ds) :
  Calls ag 113 #[.slice A l c, .slice B m d] w (A2 (bM ds - bM es) l w) := by
 obtain ⟨i0, na, kc, nm, kd⟩ := info_parts zq;have H1 := Lib.hid h.1;have j8 := Lib.hid hd;have nX := Lib.hid he;have hs := Lib.hid h;have zz := Lib.hid k;have pj := Lib.hid na;have lc := Lib.hid kc;have pk := Lib.hid nm;have pn := Lib.hid kd;have EH := Lib.hid hle;clear hd he h k na kc nm kd hle
 go_enter Tryz.func113, Tryz.ntmps113
 go_wp2
 go_loopw [5, 6, 7] (fun v c i wr => ∃ (k : Nat) (dp : Int) (os : List Int), c = .int .i64 dp ∧ i = .int .i64 k ∧ sM w wr ds es l v dp k os) (fun _ _ i _ => l - (intOf i).toNat)
 case atStart => exact ⟨0, 0, [], rfl, rfl, aby w ds es l⟩
 case round =>
  obtain ⟨k, dp, os, rfl, rfl, ap⟩ := hrel;have fA := ap.gQ;have b1 := ap.c1;have b2 := ap.top;have lK := Lib.hid ap;have bH := Lib.hid (fun w h => wq B m d es k w h (by omega) (by omega));have g1 := j8.out.getD k;have g2 := nX.out.getD k;have BZ := Lib.hid (zz.out.call ap.below);have BX := hs.out.call ap.below;have iL := Lib.hid ap.own;have bF := ap.below.size
  by_cases ix : k < l
  ·obtain ⟨cA, cR, j0, aD⟩ := BX;obtain ⟨g, rfl, aq, jq⟩ := aD (by omega);have Na := jq k ix;clear aD jq ap cA cR j0;generalize pG : ds.getD k 0 = x at Na g1;generalize tf : es.getD k 0 = y at g2 bH
   replace pG := Lib.hid pG
   replace tf := Lib.hid tf
   have gJ : (0 : Int) ≤ (k : Int) := by omega
   have bn : (k : Int) < (l : Int) := by omega
   have s1 : IntKind.i64.wrap (x - y) = x - y := IntWalk.i64_in _ (by omega);have s2 : IntKind.i64.wrap (x - y - dp) = x - y - dp := IntWalk.i64_in _ (by omega)
   go_wp2_with fail
   go_quiet ((go_at_call 115; exact Rm (bH.out _ (BZ.out.drewN _))))
   clear s1 s2 Na aq;have qk := lK.out.drewN nq;generalize wr.drewN nq = Jw at *;clear lK BZ iL bF bH;have iL := Lib.hid qk.own;have bF := qk.below.size;have N := Lib.hid (fun (w1 : World) (v' : Value) (o : Obj) (z c' : Int) az h1 uU gd hs cD aq => abx (w1 := w1) (v' := v') (o := o) (x := z) (c' := c') qk ix az h1 uU gd hs cD aq);clear qk;rw [pG.out, tf.out] at N
   by_cases aiN : x - y - dp < 0
   ·have M := Lib.hid (fun (w1 : World) (v' : Value) (o : Obj) cD aq => N.out w1 v' o (x - y - dp + 10000) 1 (by omega) (by omega) (by omega) (by omega) (by omega) cD aq);clear N
    go_wp2_with (first
     | (go_at_call 116; (with_reducible refine (Bi _).mono ?_); rintro e w' ⟨rfl, rfl⟩)
     | (at_builtin; refine wpList_append_own _ rfl _ _ 32 rfl w.heap.size 3 i0 (.int .i64 0) 1 8 Tryz.underlying32 pj.out lc.out pk.out pn.out rfl (by decide) _ _ _ rfl (iL.out.alloc _) ⟨Jw.heap.size, 0, none⟩ 1 1 [.int .i64 (x - y - dp + 10000)] rfl rfl (cell_one_new _ _ _) (by simp [Value.oneCell']) (by simp only [maxLen]; omega) (by omega) (by simp; omega) ?_; intro v' w1 lq ln pN; clear pN; have R := Lib.hid (M.out w1 v' _ lq ln); clear lq ln))
    refine ⟨⟨k + 1, _, _, rfl, by go_num, R.out⟩, ?_⟩;simp [intOf]; omega
   ·have M := Lib.hid (fun (w1 : World) (v' : Value) (o : Obj) cD aq => N.out w1 v' o (x - y - dp) 0 (by omega) (by omega) (by omega) (by omega) (by omega) cD aq);clear N
    go_wp2_with (first
     | (go_at_call 116; (with_reducible refine (Bi _).mono ?_); rintro e w' ⟨rfl, rfl⟩)
     | (at_builtin; refine wpList_append_own _ rfl _ _ 32 rfl w.heap.size 3 i0 (.int .i64 0) 1 8 Tryz.underlying32 pj.out lc.out pk.out pn.out rfl (by decide) _ _ _ rfl (iL.out.alloc _) ⟨Jw.heap.size, 0, none⟩ 1 1 [.int .i64 (x - y - dp)] rfl rfl (cell_one_new _ _ _) (by simp [Value.oneCell']) (by simp only [maxLen]; omega) (by omega) (by simp; omega) ?_; intro v' w1 lq ln pN; clear pN; have R := Lib.hid (M.out w1 v' _ lq ln); clear lq ln))
    refine ⟨⟨k + 1, _, _, rfl, by go_num, R.out⟩, ?_⟩;simp [intOf]; omega
  ·clear BX ap
   go_wp2
   go_ret
   exact abw lK.out H1.out nX.out (by omega) EH.out
end Go.Proofs.YtbcecodakfejaaaGreat
namespace Go.Proofs.YtbcecodakfejaaaGreat
open Go.RowKit
theorem er.alloc {w : World} {neg : Bool} {A : Option Addr} {l c : Nat} {n : Int} (h : er w neg A l c n) (o : Obj) : er (w.alloc o) neg A l c n := h.call ((Below.refl _ _).alloc (dE _) o)
def gC (w : World) (b : Nat) : Prop := ∃ x u, cO w b (.bool x) u
theorem gC.of {w : World} {b : Nat} {x : Bool} {u : Value} (h : cO w b (.bool x) u) : gC w b := ⟨x, u, h⟩
theorem gC.call {w w1 : World} {b : Nat} (h : gC w b) (ab : Below w.heap.size w w1) : gC w1 b := by
 obtain ⟨x, u, k⟩ := h;exact ⟨x, u, k.call ab⟩
theorem gC.drew {w : World} {b : Nat} (h : gC w b) : gC w.drew b := by
 obtain ⟨x, u, k⟩ := h;exact ⟨x, u, k.drew⟩
theorem gC.new {w : World} {b : Nat} {x : Bool} {u : Value} {t : TypeId} (e : b = w.heap.size) : gC (w.alloc (.cells #[.bool x, u] t)) b := ⟨x, u, cO.new e⟩
theorem fc.set {w : World} {A : Option Addr} {l c : Nat} {ds : List Int} (h : fc w A l c ds) {b : Nat} {x : Bool} (ab : w.cell? ⟨b, 0, none⟩ = some (.bool x)) (o : Nat) (v : Value) : fc (w.setCell ⟨b, o, none⟩ v) A l c ds := by
 obtain ⟨h1, h2, ao, aD⟩ := h;refine ⟨h1, h2, ao, fun hp => ?_⟩;obtain ⟨g, e, aq, al⟩ := aD hp
 have bU : g ≠ b := by
  rintro rfl;have := al 0 hp;rw [ab] at this;cases this
 refine ⟨g, e, by simpa [World.setCell] using aq, fun j ae => ?_⟩;rw [World.cell?_setCell_other _ _ _ _ (fun e => bU (congrArg Addr.block e).symm)];exact al j ae
theorem er.put {w : World} {neg : Bool} {A : Option Addr} {l c : Nat} {n : Int} {b : Nat} {x : Bool} {u : Value} (h : er w neg A l c n) (ab : gC w b) : er ((w.setCell ⟨b, 0, none⟩ (.bool x)).setCell ⟨b, 1, none⟩ u) neg A l c n := by
 obtain ⟨ds, eG, hS⟩ := h;obtain ⟨y, v, ⟨bn, bY⟩, fW, iX⟩ := ab;refine ⟨ds, (eG.set bn _ _).set (x := x) ?_ _ _, hS⟩;rw [World.cell?_setCell_same _ _ _ bn]
theorem afY (neg : Bool) (n : Int) : hL (!neg) n = -hL neg n := by cases neg <;> simp [hL]
theorem aeW (neg : Bool) (A : Option Addr) (l c : Nat) (n : Int) (w : World) (h : er w neg A l c n) (ak : l ≤ 1000) :
  Calls ag 109 #[.agg #[.bool neg, .slice A l c]] w fun e w' => ∃ x cE, e = .returned (.agg #[.bool x, .slice A cE c]) ∧ er w' x A cE c (-n) ∧ cE ≤ l ∧ Below w.heap.size w w' := by
 obtain ⟨ds, eG, hS⟩ := h;have hv : Hid (hL (!neg) (bM ds) = -n) := by unfold Hid; rw [afY, hS.val]
 have hd := Lib.hid hS.dg;clear hS
 go_enter Tryz.func109, Tryz.ntmps109
 go_wp2_with (go_at_call 110; refine (agU _ _ _ _ ds _ ((eG.alloc _).alloc _) hd.out ak).mono ?_; rintro e w1 ⟨cA, l1, rfl, h1, GU, ab⟩; have wb := Below.cell ab (p := ⟨w.heap.size, 0, none⟩) (by (simp; omega)); have wy := Below.frozen ab (p := ⟨w.heap.size, 0, none⟩) (by (simp; omega)); have we := Below.cell ab (p := ⟨w.heap.size, 1, none⟩) (by (simp; omega)); have wz := Below.frozen ab (p := ⟨w.heap.size, 1, none⟩) (by (simp; omega)); have yo := Below.cell ab (p := ⟨w.heap.size + 1, 0, none⟩) (by (simp; done)); have yB := Below.frozen ab (p := ⟨w.heap.size + 1, 0, none⟩) (by (simp; done)); have yp := Below.cell ab (p := ⟨w.heap.size + 1, 1, none⟩) (by (simp; done)); have yC := Below.frozen ab (p := ⟨w.heap.size + 1, 1, none⟩) (by (simp; done)); have n4 := Below.size ab; (try simp at n4); have xf : ¬ w1.heap.size = w.heap.size := (by omega); have zH : ¬ w1.heap.size = w.heap.size + 1 := (by omega))
 rw [hv.out] at h1;refine bodyPost_ret (v := .agg #[.bool cA, .slice A l1 c]) (by simp only [results, Tryz.results109]; go_simp) rfl ⟨_, _, rfl, ?_, GU, ?_⟩
 ·(repeat first | with_reducible assumption | with_reducible refine er.put ?_ ?_ | focus ((with_reducible refine gC.new ?_); simp; done) | with_reducible refine gC.call ?_ ab)
 ·(repeat first | with_reducible exact Below.refl _ _ | with_reducible refine dP ?_ _ | focus ((with_reducible refine hx ?_ _ _ _ ?_); rotate_left; omega) | with_reducible refine e1 ?_ ab)
end Go.Proofs.YtbcecodakfejaaaGreat
namespace Go.Proofs.YtbcecodakfejaaaGreat
open Go.RowKit
theorem ZP (a b : Int) : cj (-a) (-b) = cj b a := by
 unfold cj
 repeat' split
 all_goals omega
theorem Std.PI {ds : List Int} {n : Int} (h : Std false ds n) : 0 ≤ n := by rw [h.val]; exact wu h.dg
theorem Std.below {ds : List Int} {n : Int} (h : Std true ds n) : n < 0 := by have := h.pos (h.sign rfl); rw [h.val]; simp [hL]; omega
theorem aeU (x y : Bool) (A B : Option Addr) (l c cE c' : Nat) (n m : Int) (w : World) (h : er w x A l c n) (k : er w y B cE c' m) (ak : l ≤ 1000) (fb : cE ≤ 1000) :
  Calls ag 76 #[.agg #[.bool x, .slice A l c], .agg #[.bool y, .slice B cE c']] w (kQ (.int .i64 (cj n m)) w) := by
 obtain ⟨ds, eG, hS⟩ := h;obtain ⟨es, e7, cB⟩ := k;have hd := Lib.hid hS.dg;have he := Lib.hid cB.dg;have aW := Lib.hid (fun w h1 h2 => D7 A B l c cE c' ds es w h1 h2 hd.out he.out ak fb);have bH := Lib.hid (fun w h1 h2 => D7 B A cE c' l c es ds w h1 h2 he.out hd.out fb ak);have kn := Lib.hid eG;have lb := Lib.hid e7;clear eG e7;cases x <;> cases y
 ·have hv : Hid (cj (bM ds) (bM es) = cj n m) := by unfold Hid; rw [hS.val, cB.val]; rfl
  clear hS cB
  go_enter Tryz.func76, Tryz.ntmps76
  go_wp2_with (go_at_call 112; refine (aW.out _ ((kn.out.alloc _).alloc _) ((lb.out.alloc _).alloc _)).mono ?_; rintro e w1 ⟨rfl, rfl⟩)
  go_ret
  exact ⟨tZ hv.out, by (repeat first | with_reducible exact Below.refl _ _ | with_reducible refine dP ?_ _)⟩
 ·have hv : Hid (cj n m = 1) := N3 (by have := hS.PI; have := cB.below; omega);clear hS cB
  go_enter Tryz.func76, Tryz.ntmps76
  go_wp2
  go_ret
  exact ⟨tZ hv.out.symm, by (repeat first | with_reducible exact Below.refl _ _ | with_reducible refine dP ?_ _)⟩
 ·have hv : Hid (cj n m = -1) := N4 (by have := hS.below; have := cB.PI; omega);clear hS cB
  go_enter Tryz.func76, Tryz.ntmps76
  go_wp2
  go_ret
  exact ⟨tZ hv.out.symm, by (repeat first | with_reducible exact Below.refl _ _ | with_reducible refine dP ?_ _)⟩
 ·have hv : Hid (cj (bM es) (bM ds) = cj n m) := by unfold Hid; rw [hS.val, cB.val]; simp only [I7]; rw [ZP]
  clear hS cB
  go_enter Tryz.func76, Tryz.ntmps76
  go_wp2_with (go_at_call 112; refine (bH.out _ ((lb.out.alloc _).alloc _) ((kn.out.alloc _).alloc _)).mono ?_; rintro e w1 ⟨rfl, rfl⟩)
  go_ret
  exact ⟨tZ hv.out, by (repeat first | with_reducible exact Below.refl _ _ | with_reducible refine dP ?_ _)⟩
end Go.Proofs.YtbcecodakfejaaaGreat
namespace Go.Proofs.YtbcecodakfejaaaGreat
open Go.RowKit
theorem Hu {a b : Int} : (cj a b ≥ 0) ↔ b ≤ a := by
 unfold cj
 repeat' split
 all_goals omega
theorem aeS (x : Bool) (A B : Option Addr) (l c cE c' : Nat) (n m : Int) (w : World) (h : er w x A l c n) (k : er w x B cE c' m) (ak : l ≤ 900) (fb : cE ≤ 900) :
  Calls ag 71 #[.agg #[.bool x, .slice A l c], .agg #[.bool x, .slice B cE c']] w (qo (n + m) w) := by
 obtain ⟨ds, eG, hS⟩ := h;obtain ⟨es, e7, cB⟩ := k;have hv : Hid (hL x (bM ds + bM es) = n + m) := by unfold Hid; rw [hS.val, cB.val]; cases x <;> simp [hL]; omega
 have aW := Lib.hid (fun w h1 h2 => afu A B l c cE c' ds es w h1 h2 hS.dg cB.dg ak fb);have kn := Lib.hid (((eG.alloc (.cells #[.bool x, .slice A l c] 85)).alloc (.cells #[.bool x, .slice B cE c'] 85)).alloc (.cells #[.bool false, .slice none 0 0] 85));have lb := Lib.hid (((e7.alloc (.cells #[.bool x, .slice A l c] 85)).alloc (.cells #[.bool x, .slice B cE c'] 85)).alloc (.cells #[.bool false, .slice none 0 0] 85));clear eG e7 hS cB;have ft : ¬ (w.heap.size + 1 + 1 = w.heap.size) := by omega
 go_enter Tryz.func71, Tryz.ntmps71
 go_wp2_with fail
 go_region_held3 (fun w' => w'.cell? ⟨w.heap.size, 0, none⟩ = some (.bool x) ∧ w'.cell? ⟨w.heap.size, 1, none⟩ = some (.slice A l c) ∧ w'.cell? ⟨w.heap.size + 1, 1, none⟩ = some (.slice B cE c')) (go_keep)
  (first
   | (go_at_call 111; ((with_reducible refine (aW.out _ (kn.out.call ((Below.refl _ _).drew)) (lb.out.call ((Below.refl _ _).drew))).mono ?_); rintro e w1 ⟨gB, l1, c1, os, rfl, qG, yJ, pF, MY, dj, hF⟩; have Ld := Below.cell dj (p := ⟨w.heap.size, 0, none⟩) (by (simp; omega)); have Mm := Below.frozen dj (p := ⟨w.heap.size, 0, none⟩) (by (simp; omega)); have Le := Below.cell dj (p := ⟨w.heap.size, 1, none⟩) (by (simp; omega)); have Mn := Below.frozen dj (p := ⟨w.heap.size, 1, none⟩) (by (simp; omega)); have Lf := Below.cell dj (p := ⟨w.heap.size + 1, 0, none⟩) (by (simp; done)); have Mo := Below.frozen dj (p := ⟨w.heap.size + 1, 0, none⟩) (by (simp; done)); have Lg := Below.cell dj (p := ⟨w.heap.size + 1, 1, none⟩) (by (simp; done)); have Mp := Below.frozen dj (p := ⟨w.heap.size + 1, 1, none⟩) (by (simp; done)); have Lh := Below.cell dj (p := ⟨w.heap.size + 1 + 1, 0, none⟩) (by (simp; done)); have Mq := Below.frozen dj (p := ⟨w.heap.size + 1 + 1, 0, none⟩) (by (simp; done)); have Li := Below.cell dj (p := ⟨w.heap.size + 1 + 1, 1, none⟩) (by (simp; done)); have Mr := Below.frozen dj (p := ⟨w.heap.size + 1 + 1, 1, none⟩) (by (simp; done)); have zm := Below.size dj; (try simp at zm); have Ps : ¬ w1.heap.size = w.heap.size := (by omega); have Pt : ¬ w1.heap.size = w.heap.size + 1 := (by omega); have Pu : ¬ w1.heap.size = w.heap.size + 1 + 1 := (by omega); replace pF := Lib.hid pF))
   | (go_at_call 110; ((with_reducible refine (Ar _ _ _ _ os _ qG yJ (by omega)).mono ?_); rintro e w2 ⟨cR, l2, rfl, h2, dk⟩; rw [pF.out, hv.out] at h2; have Lj := Below.cell dk (p := ⟨w.heap.size, 0, none⟩) (by (simp; omega)); have Ms := Below.frozen dk (p := ⟨w.heap.size, 0, none⟩) (by (simp; omega)); have Lk := Below.cell dk (p := ⟨w.heap.size, 1, none⟩) (by (simp; omega)); have Mt := Below.frozen dk (p := ⟨w.heap.size, 1, none⟩) (by (simp; omega)); have Ll := Below.cell dk (p := ⟨w.heap.size + 1, 0, none⟩) (by (simp; omega)); have Mu := Below.frozen dk (p := ⟨w.heap.size + 1, 0, none⟩) (by (simp; omega)); have Lm := Below.cell dk (p := ⟨w.heap.size + 1, 1, none⟩) (by (simp; omega)); have Mv := Below.frozen dk (p := ⟨w.heap.size + 1, 1, none⟩) (by (simp; omega)); have Ln := Below.cell dk (p := ⟨w.heap.size + 1 + 1, 0, none⟩) (by (simp; omega)); have Mw := Below.frozen dk (p := ⟨w.heap.size + 1 + 1, 0, none⟩) (by (simp; omega)); have Lo := Below.cell dk (p := ⟨w.heap.size + 1 + 1, 1, none⟩) (by (simp; omega)); have Mx := Below.frozen dk (p := ⟨w.heap.size + 1 + 1, 1, none⟩) (by (simp; omega)); have zn := Below.size dk; (try simp at zn); have Pv : ¬ w2.heap.size = w.heap.size := (by omega); have Pw : ¬ w2.heap.size = w.heap.size + 1 := (by omega); have Px : ¬ w2.heap.size = w.heap.size + 1 + 1 := (by omega))))
 go_wp2_with fail
 refine bodyPost_ret (v := .agg #[.bool cR, .slice gB l2 c1]) (by simp only [results, Tryz.results71]; go_simp) rfl ⟨_, _, _, _, rfl, ?_, ?_, fun a e => il (by simp; omega) (hF a e)⟩
 ·(repeat first | with_reducible assumption | with_reducible refine er.put ?_ ?_ | focus ((with_reducible refine gC.new ?_); simp; done) | with_reducible refine gC.drew ?_ | with_reducible refine gC.call ?_ dk | with_reducible refine gC.call ?_ dj)
 ·(repeat first | with_reducible exact Below.refl _ _ | with_reducible refine dP ?_ _ | focus ((with_reducible refine hx ?_ _ _ _ ?_); rotate_left; omega) | with_reducible refine Below.drew ?_ | with_reducible refine e1 ?_ dk | with_reducible refine e1 ?_ dj)
theorem aeP (x y : Bool) (A B : Option Addr) (l c cE c' : Nat) (n m : Int) (w : World) (h : er w x A l c n) (k : er w y B cE c' m) (ak : l ≤ 900) (fb : cE ≤ 900) (ie : (x == y) = false) (hle : m.natAbs ≤ n.natAbs) :
  Calls ag 71 #[.agg #[.bool x, .slice A l c], .agg #[.bool y, .slice B cE c']] w (qo (n + m) w) := by
 obtain ⟨ds, eG, hS⟩ := h;obtain ⟨es, e7, cB⟩ := k
 replace hle : bM es ≤ bM ds := by have := hS.abs; have := cB.abs; omega
 have hv : Hid (hL x (bM ds - bM es) = n + m) := by unfold Hid; rw [hS.val, cB.val]; cases x <;> cases y <;> simp [hL] at ie ⊢ <;> omega
 have nH := Lib.hid (fun w h1 h2 => D7 A B l c cE c' ds es w h1 h2 hS.dg cB.dg (by omega) (by omega));have aW := Lib.hid (fun w h1 h2 => RD A B l c cE c' ds es w h1 h2 hS.dg cB.dg ak fb (by omega));have mg := Hu (a := bM ds) (b := bM es);have kn := Lib.hid (((eG.alloc (.cells #[.bool x, .slice A l c] 85)).alloc (.cells #[.bool y, .slice B cE c'] 85)).alloc (.cells #[.bool false, .slice none 0 0] 85));have lb := Lib.hid (((e7.alloc (.cells #[.bool x, .slice A l c] 85)).alloc (.cells #[.bool y, .slice B cE c'] 85)).alloc (.cells #[.bool false, .slice none 0 0] 85));have ft : ¬ (w.heap.size + 1 + 1 = w.heap.size) := by omega
 have oR : ¬ (w.heap.size + 1 = w.heap.size) := by omega
 have lc : 0 ≤ cj (bM ds) (bM es) := by omega
 clear eG e7 hS cB mg hle;generalize cj (bM ds) (bM es) = ZN at *
 go_enter Tryz.func71, Tryz.ntmps71
 go_wp2_with (go_at_call 112; ((with_reducible refine (nH.out _ kn.out lb.out).mono ?_); rintro e ahf ⟨rfl, rfl⟩))
 go_region_held3 (fun w' => w'.cell? ⟨w.heap.size, 0, none⟩ = some (.bool x) ∧ w'.cell? ⟨w.heap.size, 1, none⟩ = some (.slice A l c) ∧ w'.cell? ⟨w.heap.size + 1, 1, none⟩ = some (.slice B cE c')) (go_keep)
  (first
   | (go_at_call 113; ((with_reducible refine (aW.out _ (kn.out.call ((Below.refl _ _).drew)) (lb.out.call ((Below.refl _ _).drew))).mono ?_); rintro e w1 ⟨gB, l1, c1, os, rfl, qG, yJ, pF, MY, dj, hF⟩; have Ld := Below.cell dj (p := ⟨w.heap.size, 0, none⟩) (by (simp; omega)); have Mm := Below.frozen dj (p := ⟨w.heap.size, 0, none⟩) (by (simp; omega)); have Le := Below.cell dj (p := ⟨w.heap.size, 1, none⟩) (by (simp; omega)); have Mn := Below.frozen dj (p := ⟨w.heap.size, 1, none⟩) (by (simp; omega)); have Lf := Below.cell dj (p := ⟨w.heap.size + 1, 0, none⟩) (by (simp; done)); have Mo := Below.frozen dj (p := ⟨w.heap.size + 1, 0, none⟩) (by (simp; done)); have Lg := Below.cell dj (p := ⟨w.heap.size + 1, 1, none⟩) (by (simp; done)); have Mp := Below.frozen dj (p := ⟨w.heap.size + 1, 1, none⟩) (by (simp; done)); have Lh := Below.cell dj (p := ⟨w.heap.size + 1 + 1, 0, none⟩) (by (simp; done)); have Mq := Below.frozen dj (p := ⟨w.heap.size + 1 + 1, 0, none⟩) (by (simp; done)); have Li := Below.cell dj (p := ⟨w.heap.size + 1 + 1, 1, none⟩) (by (simp; done)); have Mr := Below.frozen dj (p := ⟨w.heap.size + 1 + 1, 1, none⟩) (by (simp; done)); have zm := Below.size dj; (try simp at zm); have Ps : ¬ w1.heap.size = w.heap.size := (by omega); have Pt : ¬ w1.heap.size = w.heap.size + 1 := (by omega); have Pu : ¬ w1.heap.size = w.heap.size + 1 + 1 := (by omega); replace pF := Lib.hid pF))
   | (go_at_call 110; ((with_reducible refine (Ar _ _ _ _ os _ qG yJ (by omega)).mono ?_); rintro e w2 ⟨cR, l2, rfl, h2, dk⟩; rw [pF.out, hv.out] at h2; have Lj := Below.cell dk (p := ⟨w.heap.size, 0, none⟩) (by (simp; omega)); have Ms := Below.frozen dk (p := ⟨w.heap.size, 0, none⟩) (by (simp; omega)); have Lk := Below.cell dk (p := ⟨w.heap.size, 1, none⟩) (by (simp; omega)); have Mt := Below.frozen dk (p := ⟨w.heap.size, 1, none⟩) (by (simp; omega)); have Ll := Below.cell dk (p := ⟨w.heap.size + 1, 0, none⟩) (by (simp; omega)); have Mu := Below.frozen dk (p := ⟨w.heap.size + 1, 0, none⟩) (by (simp; omega)); have Lm := Below.cell dk (p := ⟨w.heap.size + 1, 1, none⟩) (by (simp; omega)); have Mv := Below.frozen dk (p := ⟨w.heap.size + 1, 1, none⟩) (by (simp; omega)); have Ln := Below.cell dk (p := ⟨w.heap.size + 1 + 1, 0, none⟩) (by (simp; omega)); have Mw := Below.frozen dk (p := ⟨w.heap.size + 1 + 1, 0, none⟩) (by (simp; omega)); have Lo := Below.cell dk (p := ⟨w.heap.size + 1 + 1, 1, none⟩) (by (simp; omega)); have Mx := Below.frozen dk (p := ⟨w.heap.size + 1 + 1, 1, none⟩) (by (simp; omega)); have zn := Below.size dk; (try simp at zn); have Pv : ¬ w2.heap.size = w.heap.size := (by omega); have Pw : ¬ w2.heap.size = w.heap.size + 1 := (by omega); have Px : ¬ w2.heap.size = w.heap.size + 1 + 1 := (by omega))))
 go_wp2_with fail
 refine bodyPost_ret (v := .agg #[.bool cR, .slice gB l2 c1]) (by simp only [results, Tryz.results71]; go_simp) rfl ⟨_, _, _, _, rfl, ?_, ?_, fun a e => il (by simp; omega) (hF a e)⟩
 ·(repeat first | with_reducible assumption | with_reducible refine er.put ?_ ?_ | focus ((with_reducible refine gC.new ?_); simp; done) | with_reducible refine gC.drew ?_ | with_reducible refine gC.call ?_ dk | with_reducible refine gC.call ?_ dj)
 ·(repeat first | with_reducible exact Below.refl _ _ | with_reducible refine dP ?_ _ | focus ((with_reducible refine hx ?_ _ _ _ ?_); rotate_left; omega) | with_reducible refine Below.drew ?_ | with_reducible refine e1 ?_ dk | with_reducible refine e1 ?_ dj)
theorem aeQ (x y : Bool) (A B : Option Addr) (l c cE c' : Nat) (n m : Int) (w : World) (h : er w x A l c n) (k : er w y B cE c' m) (ak : l ≤ 900) (fb : cE ≤ 900) (ie : (x == y) = false) (hle : n.natAbs < m.natAbs) :
  Calls ag 71 #[.agg #[.bool x, .slice A l c], .agg #[.bool y, .slice B cE c']] w (qo (n + m) w) := by
 obtain ⟨ds, eG, hS⟩ := h;obtain ⟨es, e7, cB⟩ := k
 replace hle : bM ds < bM es := by have := hS.abs; have := cB.abs; omega
 have hv : Hid (hL y (bM es - bM ds) = n + m) := by unfold Hid; rw [hS.val, cB.val]; cases x <;> cases y <;> simp [hL] at ie ⊢ <;> omega
 have nH := Lib.hid (fun w h1 h2 => D7 A B l c cE c' ds es w h1 h2 hS.dg cB.dg (by omega) (by omega));have aW := Lib.hid (fun w h1 h2 => RD B A cE c' l c es ds w h2 h1 cB.dg hS.dg fb ak (by omega));have mg := Hu (a := bM ds) (b := bM es);have kn := Lib.hid (((eG.alloc (.cells #[.bool x, .slice A l c] 85)).alloc (.cells #[.bool y, .slice B cE c'] 85)).alloc (.cells #[.bool false, .slice none 0 0] 85));have lb := Lib.hid (((e7.alloc (.cells #[.bool x, .slice A l c] 85)).alloc (.cells #[.bool y, .slice B cE c'] 85)).alloc (.cells #[.bool false, .slice none 0 0] 85));have ft : ¬ (w.heap.size + 1 + 1 = w.heap.size) := by omega
 have oR : ¬ (w.heap.size + 1 = w.heap.size) := by omega
 have lc : cj (bM ds) (bM es) < 0 := by omega
 clear eG e7 hS cB mg hle;generalize cj (bM ds) (bM es) = ZN at *
 go_enter Tryz.func71, Tryz.ntmps71
 go_wp2_with (go_at_call 112; ((with_reducible refine (nH.out _ kn.out lb.out).mono ?_); rintro e ahf ⟨rfl, rfl⟩))
 go_region_held3 (fun w' => w'.cell? ⟨w.heap.size + 1, 0, none⟩ = some (.bool y) ∧ w'.cell? ⟨w.heap.size, 1, none⟩ = some (.slice A l c) ∧ w'.cell? ⟨w.heap.size + 1, 1, none⟩ = some (.slice B cE c')) (go_keep)
  (first
   | (go_at_call 113; ((with_reducible refine (aW.out _ (kn.out.call ((Below.refl _ _).drew)) (lb.out.call ((Below.refl _ _).drew))).mono ?_); rintro e w1 ⟨gB, l1, c1, os, rfl, qG, yJ, pF, MY, dj, hF⟩; have Ld := Below.cell dj (p := ⟨w.heap.size, 0, none⟩) (by (simp; omega)); have Mm := Below.frozen dj (p := ⟨w.heap.size, 0, none⟩) (by (simp; omega)); have Le := Below.cell dj (p := ⟨w.heap.size, 1, none⟩) (by (simp; omega)); have Mn := Below.frozen dj (p := ⟨w.heap.size, 1, none⟩) (by (simp; omega)); have Lf := Below.cell dj (p := ⟨w.heap.size + 1, 0, none⟩) (by (simp; done)); have Mo := Below.frozen dj (p := ⟨w.heap.size + 1, 0, none⟩) (by (simp; done)); have Lg := Below.cell dj (p := ⟨w.heap.size + 1, 1, none⟩) (by (simp; done)); have Mp := Below.frozen dj (p := ⟨w.heap.size + 1, 1, none⟩) (by (simp; done)); have Lh := Below.cell dj (p := ⟨w.heap.size + 1 + 1, 0, none⟩) (by (simp; done)); have Mq := Below.frozen dj (p := ⟨w.heap.size + 1 + 1, 0, none⟩) (by (simp; done)); have Li := Below.cell dj (p := ⟨w.heap.size + 1 + 1, 1, none⟩) (by (simp; done)); have Mr := Below.frozen dj (p := ⟨w.heap.size + 1 + 1, 1, none⟩) (by (simp; done)); have zm := Below.size dj; (try simp at zm); have Ps : ¬ w1.heap.size = w.heap.size := (by omega); have Pt : ¬ w1.heap.size = w.heap.size + 1 := (by omega); have Pu : ¬ w1.heap.size = w.heap.size + 1 + 1 := (by omega); replace pF := Lib.hid pF))
   | (go_at_call 110; ((with_reducible refine (Ar _ _ _ _ os _ qG yJ (by omega)).mono ?_); rintro e w2 ⟨cR, l2, rfl, h2, dk⟩; rw [pF.out, hv.out] at h2; have Lj := Below.cell dk (p := ⟨w.heap.size, 0, none⟩) (by (simp; omega)); have Ms := Below.frozen dk (p := ⟨w.heap.size, 0, none⟩) (by (simp; omega)); have Lk := Below.cell dk (p := ⟨w.heap.size, 1, none⟩) (by (simp; omega)); have Mt := Below.frozen dk (p := ⟨w.heap.size, 1, none⟩) (by (simp; omega)); have Ll := Below.cell dk (p := ⟨w.heap.size + 1, 0, none⟩) (by (simp; omega)); have Mu := Below.frozen dk (p := ⟨w.heap.size + 1, 0, none⟩) (by (simp; omega)); have Lm := Below.cell dk (p := ⟨w.heap.size + 1, 1, none⟩) (by (simp; omega)); have Mv := Below.frozen dk (p := ⟨w.heap.size + 1, 1, none⟩) (by (simp; omega)); have Ln := Below.cell dk (p := ⟨w.heap.size + 1 + 1, 0, none⟩) (by (simp; omega)); have Mw := Below.frozen dk (p := ⟨w.heap.size + 1 + 1, 0, none⟩) (by (simp; omega)); have Lo := Below.cell dk (p := ⟨w.heap.size + 1 + 1, 1, none⟩) (by (simp; omega)); have Mx := Below.frozen dk (p := ⟨w.heap.size + 1 + 1, 1, none⟩) (by (simp; omega)); have zn := Below.size dk; (try simp at zn); have Pv : ¬ w2.heap.size = w.heap.size := (by omega); have Pw : ¬ w2.heap.size = w.heap.size + 1 := (by omega); have Px : ¬ w2.heap.size = w.heap.size + 1 + 1 := (by omega))))
 go_wp2_with fail
 refine bodyPost_ret (v := .agg #[.bool cR, .slice gB l2 c1]) (by simp only [results, Tryz.results71]; go_simp) rfl ⟨_, _, _, _, rfl, ?_, ?_, fun a e => il (by simp; omega) (hF a e)⟩
 ·(repeat first | with_reducible assumption | with_reducible refine er.put ?_ ?_ | focus ((with_reducible refine gC.new ?_); simp; done) | with_reducible refine gC.drew ?_ | with_reducible refine gC.call ?_ dk | with_reducible refine gC.call ?_ dj)
 ·(repeat first | with_reducible exact Below.refl _ _ | with_reducible refine dP ?_ _ | focus ((with_reducible refine hx ?_ _ _ _ ?_); rotate_left; omega) | with_reducible refine Below.drew ?_ | with_reducible refine e1 ?_ dk | with_reducible refine e1 ?_ dj)
theorem aeR (x y : Bool) (A B : Option Addr) (l c cE c' : Nat) (n m : Int) (w : World) (h : er w x A l c n) (k : er w y B cE c' m) (ak : l ≤ 900) (fb : cE ≤ 900) :
  Calls ag 71 #[.agg #[.bool x, .slice A l c], .agg #[.bool y, .slice B cE c']] w (qo (n + m) w) := by
 by_cases e : x = y
 ·subst e;exact aeS x A B l c cE c' n m w h k ak fb
 ·have ie : (x == y) = false := by simpa using e
  rcases hZ n.natAbs m.natAbs with q | q
  ·exact aeQ x y A B l c cE c' n m w h k ak fb ie q
  ·exact aeP x y A B l c cE c' n m w h k ak fb ie q
end Go.Proofs.YtbcecodakfejaaaGreat
namespace Go.Proofs.YtbcecodakfejaaaGreat
open Go.RowKit
theorem WD {os : List Int} (h : dG os) {y : Int} (ai : 0 ≤ y) : (10000 : Int) ^ os.length * y ≤ gR os y := by
 induction os with
 | nil => simp [gR]
 | cons d ds bI =>
  have h1 := h.head;have h2 := bI h.tail;rw [jQ, oe, gR, iq (10000 ^ ds.length) 10000, ki];omega
structure rs (w wr : World) (x : Bool) (N : Nat) (v : Value) (k : Nat) (os : List Int) (z : Nat) : Prop where
 fA : cO wr w.heap.size (.bool false) (.slice none 0 0)
 b1 : cO wr (w.heap.size + 1) (.bool x) v
 own : wr.ownsRow (w.heap.size + 2) 3 1 v k (os.map (Value.int .i64))
 len : os.length = k
 dg : dG os
 val : gR os z = N
 tF : z = 0 → qm os
 below : Below w.heap.size w wr
theorem rs.short {w wr : World} {x : Bool} {N : Nat} {v : Value} {k : Nat} {os : List Int} {z : Nat} (h : rs w wr x N v k os z) (ey : N < 100000000000000000000) (aN : 0 < z) : k < 5 := by
 rcases hZ k 5 with q | q
 ·exact q
 ·exfalso;have h1 := WD h.dg (y := z) (by omega);rw [h.val, h.len] at h1;have h2 : (10000 : Int) ^ 5 ≤ 10000 ^ k := QW q;have ao : (10000 : Int) ^ k * 1 ≤ 10000 ^ k * z := od (by omega) (lB (QX k));have aD : (10000 : Int) ^ 5 = 100000000000000000000 := by decide
  omega
theorem PY {w wr w1 : World} {x : Bool} {N : Nat} {v v' : Value} {k : Nat} {os : List Int} {z : Nat} {o : Obj} (h : rs w wr x N v k os z) (aN : 0 < z)
  (cD : w1.ownsRow (w.heap.size + 2) 3 1 v' (k + 1) (os.map (Value.int .i64) ++ [.int .i64 ((z % 10000 : Nat) : Int)])) (aq : (wr.alloc o).grownBy w1 v.ownBlock) :
  cO w1 (w.heap.size + 1) (.bool x) v ∧ rs w (w1.setCell ⟨w.heap.size + 1, 1, none⟩ v') x N v' (k + 1) (os ++ [((z % 10000 : Nat) : Int)]) (z / 10000) := by
 have M9 := h.fA.lt;have dj := h.b1.lt;have bU : ∀ j, j < w.heap.size + 2 → some j ≠ v.ownBlock := fun j ae e => by have := h.own.lt j e.symm; omega
 have OG : ∀ (b : Nat) (u oj : Value), b < w.heap.size + 2 → cO wr b u oj → cO w1 b u oj := fun b u oj ab eM => by
  have bb := eM.lt;obtain ⟨⟨c1, c2⟩, f1, f2⟩ := eM;have ll := aq.block b (by simp; omega) (bU b ab);refine ⟨⟨?_, ?_⟩, ?_, ?_⟩
  ·rw [World.cell?_of_block (w := wr.alloc o) (a := ⟨b, 0, none⟩) ll, World.cell?_alloc_lt _ _ _ (by omega)]; exact c1
  ·rw [World.cell?_of_block (w := wr.alloc o) (a := ⟨b, 1, none⟩) ll, World.cell?_alloc_lt _ _ _ (by omega)]; exact c2
  ·rw [World.frozen?_of_block (w := wr.alloc o) (a := ⟨b, 0, none⟩) ll, World.frozen?_alloc_past _ _ _ (by omega)]; exact f1
  ·rw [World.frozen?_of_block (w := wr.alloc o) (a := ⟨b, 1, none⟩) ll, World.frozen?_alloc_past _ _ _ (by omega)]; exact f2
 have bn := OG _ _ _ (by omega) h.b1;refine ⟨bn, ⟨(OG _ _ _ (by omega) h.fA).set _ (by omega), ?_, ?_, by rw [cF, h.len]; rfl, h.dg.snoc (by omega) (by omega), ?_, fun q => ?_, ?_⟩⟩
 ·obtain ⟨⟨c1, c2⟩, f1, f2⟩ := bn;refine ⟨⟨?_, World.cell?_setCell_same _ _ _ c2⟩, ?_, ?_⟩
  ·rw [World.cell?_setCell_other _ _ _ _ (by simp)]; exact c1
  ·go_simp
  ·go_simp
 ·rw [List.map_append]; exact ownsRow_setCell_below cD (by simp) _
 ·rw [wv, ← h.val]; congr 1; omega
 ·intro hp;rw [cF];simp;omega
 ·refine (((h.below.alloc h.below.size o).grown aq (by have := h.below.size; simp; omega) (fun j ae => by have := (h.own.lt j ae).1; omega))).setCell (by simp) _
theorem acu {x : Bool} {N : Nat} {os : List Int} (hd : dG os) (hv : gR os 0 = N) (ax : qm os) {n : Int} (aa : n = hL x N) (hs : x = true → 0 < N) : Std x os n := by
 refine ⟨hd, ax, fun q e => ?_, by rw [aa]; unfold bM; rw [hv]⟩;have := hs q;rw [e] at hv;simp [gR] at hv;omega
theorem PX {w wr : World} {x : Bool} {N : Nat} {v : Value} {k : Nat} {os : List Int} {z : Nat} (h : rs w wr x N v k os z) (aN : z = 0) {n : Int} (aa : n = hL x N) (hs : x = true → 0 < N) :
  ∃ A c, v = .slice A k c ∧ er wr x A k c n ∧ Fr (w.heap.size + 2) A := by
 obtain ⟨A, c, rfl, eG⟩ := fc.own h.own;have hF := Fr.own h.own;have hv := h.val;have ax := h.tF aN;rw [aN] at hv;exact ⟨A, c, rfl, ⟨os, eG, acu h.dg hv ax aa hs⟩, hF⟩
end Go.Proofs.YtbcecodakfejaaaGreat
namespace Go.Proofs.YtbcecodakfejaaaGreat
open Go.RowKit
theorem PZ (w : World) (x : Bool) (n : Nat) : rs w ((w.alloc (.cells #[.bool false, .slice none 0 0] 85)).alloc (.cells #[.bool x, .slice none 0 0] 85)) x n (.slice none 0 0) 0 [] n :=
 ⟨(cO.new rfl).alloc _, cO.new (by simp), World.ownsRow_nil _ _ _ _, rfl, dG.nil, rfl, fun _ => ab7, by (repeat first | with_reducible exact Below.refl _ _ | with_reducible refine dP ?_ _)⟩
theorem acs (n : Nat) (w : World) (h : n < 9223372036854775808) : Calls ag 66 #[.int .i64 n] w (qo n w) := by
 obtain ⟨i0, na, kc, nm, kd⟩ := info_parts zq;have pj := Lib.hid na;have lc := Lib.hid kc;have pk := Lib.hid nm;have pn := Lib.hid kd;clear na kc nm kd;have ST := Lib.hid (PZ w false n);have hd : decide ((n : Int) < 0) = false := cp (by omega)
 go_enter Tryz.func66, Tryz.ntmps66
 go_wp2
 go_loopw [0] (fun i wr => ∃ (z k : Nat) (v : Value) (os : List Int), i = .int .i64 z ∧ z ≤ n ∧ rs w wr false n v k os z) (fun i _ => (intOf i).toNat)
 case atStart => exact ⟨n, 0, _, [], rfl, dE _, ST.out⟩
 case round =>
  obtain ⟨z, k, v, os, rfl, ZL, ap⟩ := hrel;obtain ⟨⟨c1, c2⟩, f1, f2⟩ := id ap.b1;obtain ⟨⟨hf, nS⟩, f3, f4⟩ := id ap.fA;have iL := Lib.hid ap.own;have lK := Lib.hid ap;have bF := ap.b1.lt
  by_cases aN : z = 0
  ·obtain ⟨A, c, rfl, ey, hF⟩ := PX ap aN (n := n) rfl (fun h => by cases h);have uo := Lib.hid ap.below;have EE := Lib.hid ap.fA;subst aN;clear ap
   go_wp2
   refine bodyPost_ret (v := .agg #[.bool false, .slice A k c]) (by simp only [results, Tryz.results66]; go_simp) rfl ⟨_, _, _, _, rfl, ?_, ?_, fun a e => il (by omega) (hF a e)⟩
   ·exact ey.put (gC.of EE.out)
   ·exact hx (hx uo.out _ _ _ (by omega)) _ _ _ (by omega)
  ·have kc : 0 < z := by omega
   have YU := ap.short (by omega) kc;have bU : ((z : Int) != 0) = true := by simpa using aN
   have N := Lib.hid (fun (w1 : World) (v' : Value) (o : Obj) cD aq => PY (w1 := w1) (v' := v') (o := o) lK.out kc cD aq);clear ap aN
   go_wp2_with (at_builtin; refine wpList_append_own _ rfl _ _ 32 rfl (w.heap.size + 2) 3 i0 (.int .i64 0) 1 8 Tryz.underlying32 pj.out lc.out pk.out pn.out rfl (by decide) _ _ _ rfl (iL.out.alloc _) ⟨wr.heap.size, 0, none⟩ 1 1 [.int .i64 ((z % 10000 : Nat) : Int)] rfl rfl (cell_one_new _ _ _) (by simp [Value.oneCell']) (by simp only [maxLen]; omega) (by omega) (by simp; omega) ?_; intro v' w1 lq ln pN; clear pN; have R := N.out w1 v' _ lq ln; clear lq ln c1 c2 f1 f2 hf nS f3 f4; obtain ⟨⟨⟨c1, c2⟩, f1, f2⟩, R⟩ := R; obtain ⟨dU, c', rfl, wF⟩ := fc.own R.own; clear wF; replace R := Lib.hid R)
   refine ⟨⟨z / 10000, k + 1, _, _, by go_num, by omega, R.out⟩, ?_⟩;simp [intOf]; omega
theorem neg_tmod (y : Nat) : (-(y : Int)).tmod 10000 = -((y : Int) % 10000) := by rw [Int.neg_tmod, Int.tmod_eq_emod_of_nonneg (by omega)]
theorem neg_tdiv (y : Nat) : (-(y : Int)).tdiv 10000 = -((y : Int) / 10000) := by rw [Int.neg_tdiv, Int.tdiv_eq_ediv_of_nonneg (by omega)]
theorem acr (n : Nat) (w : World) (h : n ≤ 9223372036854775808) (az : 0 < n) : Calls ag 66 #[.int .i64 (-(n : Int))] w (qo (-(n : Int)) w) := by
 obtain ⟨i0, na, kc, nm, kd⟩ := info_parts zq;have pj := Lib.hid na;have lc := Lib.hid kc;have pk := Lib.hid nm;have pn := Lib.hid kd;clear na kc nm kd;have ST := Lib.hid (PZ w true n);have hd : decide (-(n : Int) < 0) = true := bZ (by omega)
 go_enter Tryz.func66, Tryz.ntmps66
 go_wp2
 go_loopw [0] (fun i wr => ∃ (z k : Nat) (v : Value) (os : List Int), i = .int .i64 (-(z : Int)) ∧ z ≤ n ∧ rs w wr true n v k os z) (fun i _ => (-intOf i).toNat)
 case atStart => exact ⟨n, 0, _, [], rfl, dE _, ST.out⟩
 case round =>
  obtain ⟨z, k, v, os, rfl, ZL, ap⟩ := hrel;obtain ⟨⟨c1, c2⟩, f1, f2⟩ := id ap.b1;obtain ⟨⟨hf, nS⟩, f3, f4⟩ := id ap.fA;have iL := Lib.hid ap.own;have lK := Lib.hid ap;have bF := ap.b1.lt
  by_cases aN : z = 0
  ·obtain ⟨A, c, rfl, ey, hF⟩ := PX ap aN (n := -(n : Int)) rfl (fun _ => az);have uo := Lib.hid ap.below;have EE := Lib.hid ap.fA;subst aN;clear ap;rw [show (-(((0 : Nat)) : Int)) = 0 from rfl]
   go_wp2
   refine bodyPost_ret (v := .agg #[.bool true, .slice A k c]) (by simp only [results, Tryz.results66]; go_simp) rfl ⟨_, _, _, _, rfl, ?_, ?_, fun a e => il (by omega) (hF a e)⟩
   ·exact ey.put (gC.of EE.out)
   ·exact hx (hx uo.out _ _ _ (by omega)) _ _ _ (by omega)
  ·have kc : 0 < z := by omega
   have YU := ap.short (by omega) kc;have bU : (-(z : Int) != 0) = true := by simpa using aN
   have N := Lib.hid (fun (w1 : World) (v' : Value) (o : Obj) cD aq => PY (w1 := w1) (v' := v') (o := o) lK.out kc cD aq);have t1 := neg_tmod z;have t2 := neg_tdiv z;clear ap aN
   by_cases hm : (z : Int) % 10000 = 0
   ·have Nv : z % 10000 = 0 := by omega
    replace N : Hid (∀ (w1 : World) (v' : Value) (o : Obj), w1.ownsRow (w.heap.size + 2) 3 1 v' (k + 1) (os.map (Value.int .i64) ++ [.int .i64 0]) → (wr.alloc o).grownBy w1 v.ownBlock → cO w1 (w.heap.size + 1) (.bool true) v ∧ rs w (w1.setCell ⟨w.heap.size + 1, 1, none⟩ v') true n v' (k + 1) (os ++ [0]) (z / 10000)) := by
     intro w1 v' o h1 h2;have := N.out w1 v' o;rw [Nv] at this;exact this h1 h2
    rw [hm] at t1;rw [show (-(0 : Int)) = 0 from rfl] at t1;clear hm Nv
    go_wp2_with (at_builtin; refine wpList_append_own _ rfl _ _ 32 rfl (w.heap.size + 2) 3 i0 (.int .i64 0) 1 8 Tryz.underlying32 pj.out lc.out pk.out pn.out rfl (by decide) _ _ _ rfl (iL.out.alloc _) ⟨wr.heap.size, 0, none⟩ 1 1 [.int .i64 0] rfl rfl (cell_one_new _ _ _) (by simp [Value.oneCell']) (by simp only [maxLen]; omega) (by omega) (by simp; omega) ?_; intro v' w1 lq ln pN; clear pN; have R := N.out w1 v' _ lq ln; clear lq ln c1 c2 f1 f2 hf nS f3 f4; obtain ⟨⟨⟨c1, c2⟩, f1, f2⟩, R⟩ := R; obtain ⟨dU, c', rfl, wF⟩ := fc.own R.own; clear wF; replace R := Lib.hid R)
    refine ⟨⟨z / 10000, k + 1, _, _, by go_num, by omega, R.out⟩, ?_⟩;simp [intOf]; omega
   ·have fq : (0 : Int) < (z : Int) % 10000 := by omega
    clear hm
    go_wp2_with (at_builtin; refine wpList_append_own _ rfl _ _ 32 rfl (w.heap.size + 2) 3 i0 (.int .i64 0) 1 8 Tryz.underlying32 pj.out lc.out pk.out pn.out rfl (by decide) _ _ _ rfl (iL.out.alloc _) ⟨wr.heap.size, 0, none⟩ 1 1 [.int .i64 ((z % 10000 : Nat) : Int)] rfl rfl (cell_one_new _ _ _) (by simp [Value.oneCell']) (by simp only [maxLen]; omega) (by omega) (by simp; omega) ?_; intro v' w1 lq ln pN; clear pN; have R := N.out w1 v' _ lq ln; clear lq ln c1 c2 f1 f2 hf nS f3 f4; obtain ⟨⟨⟨c1, c2⟩, f1, f2⟩, R⟩ := R; obtain ⟨dU, c', rfl, wF⟩ := fc.own R.own; clear wF; replace R := Lib.hid R)
    refine ⟨⟨z / 10000, k + 1, _, _, by go_num, by omega, R.out⟩, ?_⟩;simp [intOf]; omega
theorem Rp (n : Int) (w : World) (az : -9223372036854775808 ≤ n) (h1 : n < 9223372036854775808) : Calls ag 66 #[.int .i64 n] w (qo n w) := by
 rcases o8 n 0 with q | q
 ·obtain ⟨m, rfl⟩ : ∃ m : Nat, n = -(m : Int) := ⟨n.natAbs, by omega⟩;exact acr m w (by omega) (by omega)
 ·obtain ⟨m, rfl⟩ := l6 q;exact acs m w (by omega)
end Go.Proofs.YtbcecodakfejaaaGreat
namespace Go.Proofs.YtbcecodakfejaaaGreat
open Go.RowKit
theorem QU (j : Nat) : (0 : Int) < 2 ^ j ∧ (2 : Int) ^ j < 10000 ^ (j + 1) := by
 induction j with
 | zero => decide
 | succ j bI => rw [oe, oe (10000 : Int) (j + 1)]; omega
theorem QT (j : Nat) : (((2 : Int) ^ j).natAbs : Int) < 10000 ^ (j + 1) := by have := QU j; omega
theorem aew (j : Nat) : (2 : Int) ^ j + 2 ^ j = 2 ^ (j + 1) := by rw [oe]; omega
theorem aeX (k : Nat) (w : World) (af : k ≤ 800) : Calls ag 108 #[.int .i64 k] w (qo (2 ^ k) w) := by
 go_enter Tryz.func108, Tryz.ntmps108
 go_wp2_with fail
 refine (Rp 1 _ (by omega) (by omega)).mono ?_;rintro e w1 ⟨cA, gB, l1, c1, rfl, h1, dj, B0⟩
 replace B0 : Hid (Fr w.heap.size gB) := fun a e => il (by simp) (B0 a e)
 have bw : cO w1 w.heap.size (.bool false) (.slice none 0 0) := (cO.new rfl).call dj;have h3 := Lib.hid dj.size;have VB : Below w.heap.size w w1 := e1 (dP (Below.refl _ _) _) dj;clear dj
 go_wp2_with fail
 go_loopw [4] (fun i wr => ∃ (j : Nat) (x : Bool) (A : Option Addr) (l c : Nat), i = .int .i64 j ∧ j ≤ k ∧ cO wr w.heap.size (.bool false) (.slice none 0 0) ∧ cO wr w1.heap.size (.bool x) (.slice A l c) ∧ er wr x A l c (2 ^ j) ∧ Below w.heap.size w wr ∧ Hid (Fr w.heap.size A)) (fun i _ => k - (intOf i).toNat)
 case atStart =>
  refine ⟨0, cA, gB, l1, c1, rfl, dx _, bw.alloc _, cO.new rfl, ?_, dP VB _, B0⟩;exact h1.alloc _
 case round =>
  obtain ⟨j, x, A, l, c, rfl, ae, Gg, MR, ey, wJ, MS⟩ := hrel;clear B0;have ak := ey.len (QT j);obtain ⟨⟨p1, p2⟩, p3, p4⟩ := id MR;obtain ⟨⟨q1, q2⟩, bR, dD⟩ := id Gg;have bb : w.heap.size < w1.heap.size := by have := h3.out; simp at this; omega
  by_cases kz : j < k
  ·go_wp2_with (go_at_call 71; ((with_reducible refine (aeR _ _ _ _ _ _ _ _ _ _ _ ey ey (by omega) (by omega)).mono ?_); rintro e w2 ⟨cR, kK, l2, c2, rfl, h2, dk, Gi⟩; replace Gi : Hid (Fr w.heap.size kK) := (fun a e => il wJ.size (Gi a e)); clear MS; rw [aew] at h2; clear p1 p2 p3 p4 q1 q2 bR dD; have Gh := MR.call dk; have XK := Gg.call dk; obtain ⟨⟨p1, p2⟩, p3, p4⟩ := id Gh))
   refine ⟨⟨j + 1, cR, kK, l2, c2, by go_num, by omega, (XK.set _ (by omega)).set _ (by omega), cO.put (ur.of Gh), h2.put (gC.of Gh), ?_, Gi⟩, ?_⟩
   ·exact hx (hx (e1 wJ dk) _ _ _ (by omega)) _ _ _ (by omega)
   ·simp [intOf]; omega
  ·obtain rfl : j = k := by omega
   go_wp2
   refine bodyPost_ret (v := .agg #[.bool x, .slice A l c]) (by simp only [results, Tryz.results108]; go_simp) rfl ⟨_, _, _, _, rfl, ?_, ?_, MS⟩
   ·exact ey.put (gC.of Gg)
   ·exact hx (hx wJ _ _ _ (by omega)) _ _ _ (by omega)
end Go.Proofs.YtbcecodakfejaaaGreat
