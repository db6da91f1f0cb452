/-
  My own texts, without what this claim does not need. My own text.
-/
import Derived.WalkKit
import Derived.Deep.QuietTactic
import Derived.OwnWalk
import Derived.Laws.OwnMore
import Derived.Maps.AppendAt
import Derived.IntWalk
import Derived.Test.YtbcecodakfejaaaGreatSKeepsK6
set_option maxRecDepth 100000
set_option maxHeartbeats 64000000
set_option linter.unusedVariables false
set_option linter.unusedSimpArgs false
set_option linter.unusedSectionVars false
open Go.Proofs.Tryz renaming prog → ag
namespace Go.Proofs.YtbcecodakfejaaaGreat
open Go.RowKit
def cZ (k : Nat) (cs : List AC) : Mem := bI cj k cs
theorem hW {k j : Nat} {cs ds : List AC} (h : cZ k cs j = some ds) : j = k ∧ ds = cs := by
 unfold cZ at h
 by_cases e : j = k
 ·subst e; rw [cF] at h; exact ⟨rfl, (lc h).symm⟩
 ·rw [ct _ _ e] at h; cases h
theorem fO {k j : Nat} {r q : bG} (h : bC k r j = some q) : j = k ∧ q = r := by
 unfold bC at h
 by_cases e : j = k
 ·subst e; rw [cF] at h; exact ⟨rfl, (lc h).symm⟩
 ·rw [ct _ _ e] at h; cases h
theorem wI {α : Type} (f : Nat → Option α) (k : Nat) (x : α) : bX (bI (fun _ => none) k x) f = bI f k x := by
 funext j
 by_cases e : j = k
 ·subst e; rw [cF]; exact hX (cF _ _ _)
 ·rw [ct _ _ e]; exact hY (ct _ _ e)
theorem Rs {α : Type} (f : Nat → Option α) : bX (fun _ => none) f = f := by funext j; exact hY rfl
def yx (n : Nat) (args : List ah) (m : Mem) : aC := ⟨n, fun t => args[t]?, m⟩
def uo (P : Program) (fn : Func) (m0 : Mem) (R0 : aI) (Post : ah → Mem → aI → Prop) (R : aI) (s : aC) : Prop :=
 ∃ xs r aH ay, fn.results.toList.map (jl P s) = xs.map some ∧ (packed xs).aK r ∧ Post r aH ay ∧ (∀ k cs, aH k = some cs → s.mem k = some cs) ∧ bx ay R ∧ (∀ j, r.owns j → ∃ cs, aH j = some cs) ∧ (∀ k cs x j, aH k = some cs → x ∈ cs → x.owns j → ∃ ar, aH j = some ar) ∧ (∀ k cs, m0 k = some cs → ∃ ar, aH k = some ar) ∧ ∀ i r, R0 i = some r → ∃ aV, ay i = some aV
def kh (P : Program) (fn : Func) (m0 : Mem) (R0 : aI) (Post : ah → Mem → aI → Prop) : Exit → aI → aC → Prop
 | .normal, R, s | .ret, R, s => uo P fn m0 R0 Post R s
 | _, _, _ => False
section
variable {P : Program}
theorem dE {f : FuncId} {fn : Func} {c : Code} {args : List ah} {m0 : Mem} {R0 : aI} {Post : ah → Mem → aI → Prop} (ap : P.funcs[f]? = some fn) (ab : fn.body = some c) (aw : args.length ≤ fn.ntmps) (xI : ∀ k cs, m0 k = some cs → fn.ntmps ≤ k)
  (h : fu P c (kh P fn m0 R0 Post) R0 (yx fn.ntmps args m0)) : du P f args m0 R0 Post := by
 refine ⟨fun U ad W vs cq cy cW => ?_⟩;have hl := cW.1;refine calls_of_wp ap ab ?_;have ok : (yx fn.ntmps args m0).cQ := ⟨fun t av j aB ae => cy av (dc aB) j ae, fun k cs x j af aa ae => cq.fN k cs x j af aa ae⟩
 let a8 : eL := ⟨W, fun b => b < W.heap.size ∧ ¬ er ad m0 R0 b, fun _ h => h.1, fun k => match m0 k with | some _ => some (ad k) | none => none, []⟩
 have bb : ∀ b, er ad m0 R0 b → b < W.heap.size := by
  rintro b (⟨k, cs, af, rfl⟩ | ⟨i, r, hi, an⟩)
  ·obtain ⟨vs, ty, h1, _⟩ := cq.dz k cs af;exact (j2.1 h1).1
  ·exact (cq.rows i r hi).1.lt an
 have Zp : ∀ b, U b → ¬ er ad m0 R0 b := by
  rintro b hu (⟨k, cs, af, rfl⟩ | ⟨i, r, hi, an⟩)
  ·obtain ⟨_, _, _, _, h⟩ := cq.dz k cs af; exact h hu
  ·exact ((cq.rows i r hi).2.2 b an).1 hu
 have nI : sg a8 (yx fn.ntmps args m0) ad := fun k b af => by
  cases hm : m0 k with
  | none => simp only [a8, hm] at af; cases af
  | some cs => simp only [a8, hm, iT] at af; exact ⟨xI k cs hm, af⟩
 have ke : ∀ b, U b → b < W.heap.size → (yx fn.ntmps args m0).free (fun b => U b ∨ W.heap.size ≤ b) ad b ∧ W.heap[b]? = W.heap[b]? := fun b hu _ => ⟨⟨.inl hu, fun k cs af e => Zp b hu (.inl ⟨k, cs, af, e⟩)⟩, rfl⟩
 have aq : eD a8 (fun b => U b ∨ W.heap.size ≤ b ∨ er ad m0 R0 b) R0 (yx fn.ntmps args m0) { tmps := vs.toArray ++ Array.replicate (fn.ntmps - vs.toArray.size) undef, defers := [] } W (fun b => U b ∨ W.heap.size ≤ b) ad := by
  refine ⟨fun b ab => .inr (.inl ab), fun b ab => ab.elim .inl fun h => .inr (.inl h), ?_, fun k cs af ap => ap.2 (.inl ⟨k, cs, af, rfl⟩), ⟨rfl, rfl, rfl, dI _, fun _ _ => rfl⟩, fun i r hi => ?_, cq.apart, fun i r g hi an => ⟨fun ap => ap.2 (.inr ⟨i, r, hi, an⟩), .inr (.inr (.inr ⟨i, r, hi, an⟩))⟩, nI⟩
  ·refine ⟨rfl, by simp [yx]; omega, fun t av aB => ?_, fun k cs af => ?_, cq.inj, jr.refl _, fun b ab => .inr ab, vQ _ _ _⟩
   ·have DD : t < vs.length := by rw [← hl]; exact (bL.1 aB).1
    refine ⟨vs[t], by simp [Array.getElem?_append, DD], ?_⟩;exact (cW.2 t av _ aB (bN DD)).map ke fun _ _ => rfl
   ·obtain ⟨us, ty, h1, h2, h3⟩ := cq.dz k cs af;exact ⟨us, ty, h1, h2.map ke fun _ _ _ _ => rfl, fun ap => ap.2 k cs af rfl⟩
  ·obtain ⟨l4, aj, an⟩ := cq.rows i r hi;refine ⟨l4.kept aj (fun _ _ => rfl) (dI _) ke, aj, fun g q => ⟨?_, fun k cs af => (an g q).2 k cs af⟩⟩;rintro (hu | hu)
   ·exact (an g q).1 hu
   ·have := bb g (.inr ⟨i, r, hi, q⟩); omega
 refine wp_mono (h ok a8 _ _ W ⟨_, ad, aq⟩).top ?_;rintro e a' w' ⟨ev, s', cX, ⟨ea, aX, b6⟩, ak⟩
 have fin : uo P fn m0 R0 Post ev s' → a'.defers = [] ∧ ∃ v, (results fn a'.tmps).run P w' = .ok v w' ∧ ∃ v' r aH ay aX cR, Ending.returned v = .returned v' ∧ Post r aH ay ∧ e9 cR aX w' aH ay ∧ de cR aX w' r v' ∧ (∀ j, r.owns j → ∃ cs, aH j = some cs) ∧
   (∀ k cs, m0 k = some cs → aX k = ad k ∧ ∃ ar, aH k = some ar) ∧ (∀ i r, R0 i = some r → ∃ aV, ay i = some aV) ∧
   (∀ b, cR b → U b ∨ W.heap.size ≤ b ∨ er ad m0 R0 b) ∧ (∀ b, er aX aH ay b → er ad m0 R0 b ∨ W.heap.size ≤ b) ∧ jr (Ix ad W m0 R0) w' := by
  rintro ⟨xs, r, aH, ay, h1, h2, h3, aD, cU, fs, kb, qq, jB⟩;obtain ⟨v, q1, q2⟩ := SU b6.rel h1;refine ⟨b6.rel.qL, v, q1, v, r, aH, ay, aX, s'.free ea aX, rfl, h3, b6.part aD cU kb, h2 _ _ _ _ q2, fs, fun k cs af => ⟨(b6.j8 k (ad k) (by simp [a8, af])).2, qq k cs af⟩, jB, fun b ab => b6.sub b ab.1, ?_, ⟨b6.below.os, b6.below.tape, b6.below.output, b6.below.size, fun b ab => b6.below.block b ab⟩⟩;rintro b (⟨k, cs, af, rfl⟩ | ⟨i, q, hi, an⟩)
  ·have Iv := b6.px k cs (aD k cs af);rcases gK (aX k) W.heap.size with nN | nN
   ·exact .inl (Classical.byContradiction fun aw => Iv ⟨nN, aw⟩)
   ·exact .inr nN
  ·have Iv := (b6.hot i q b (cU i q hi) an).1;rcases gK b W.heap.size with nN | nN
   ·exact .inl (Classical.byContradiction fun aw => Iv ⟨nN, aw⟩)
   ·exact .inr nN
 cases e with
 | normal => exact fin ak
 | ret => exact fin ak
 | _ => exact ak.elim
end
def AC.a6 (bF : Nat → Nat) : AC → AC
 | .own k o => .own (bF k) o
 | .c v => .c v
 | .p R => .p R
def bA.a6 (bF : Nat → Nat) : bA → bA
 | .one x => .one (x.a6 bF)
 | .agg xs => .agg (xs.map (AC.a6 bF))
def ah.a6 (bF : Nat → Nat) : ah → ah
 | .w x => .w (x.a6 bF)
 | .cz xs => .cz (xs.map (bA.a6 bF))
def Mem.a6 (bF : Nat → Nat) (m : Mem) : Mem := fun j => (m (bF j)).map fun cs => cs.map (AC.a6 bF)
def aI.a6 (ca : Nat → Nat) (R : aI) : aI := fun j => R (ca j)
section
variable {P : Program} {U : Nat → Prop} {ad : Nat → Nat} {W : World} {bF ca iV : Nat → Nat}
theorem gx.a6 {x : AC} {v : Value} : gx U ad W (x.a6 bF) v ↔ gx U (fun k => ad (bF k)) W x v := by cases x <;> exact Iff.rfl
theorem bM.a6 {xs : List AC} {vs : List Value} : bM U ad W (xs.map (AC.a6 bF)) vs ↔ bM U (fun k => ad (bF k)) W xs vs := by
 constructor
 ·rintro ⟨h1, h2⟩;refine ⟨by simpa using h1, fun i x v aa hv => gx.a6.1 (h2 i (x.a6 bF) v (by rw [dL, aa]; rfl) hv)⟩
 ·rintro ⟨h1, h2⟩;refine ⟨by simpa using h1, fun i x v aa hv => ?_⟩;rw [dL] at aa;cases ai : xs[i]? with
  | none => rw [ai] at aa; cases aa
  | some y => rw [ai] at aa; cases aa; exact gx.a6.2 (h2 i y v ai hv)
theorem gh.a6 {x : bA} {v : Value} : gh U ad W (x.a6 bF) v ↔ gh U (fun k => ad (bF k)) W x v := by
 cases x with
 | one x => exact gx.a6
 | agg xs =>
  constructor
  ·rintro ⟨vs, e, h⟩; exact ⟨vs, e, bM.a6.1 h⟩
  ·rintro ⟨vs, e, h⟩; exact ⟨vs, e, bM.a6.2 h⟩
theorem de.a6 {x : ah} {v : Value} : de U ad W (x.a6 bF) v ↔ de U (fun k => ad (bF k)) W x v := by
 cases x with
 | w x => exact gh.a6
 | cz xs =>
  constructor
  ·rintro ⟨vs, e, hl, h⟩;exact ⟨vs, e, by simpa using hl, fun i x v aa hv => gh.a6.1 (h i (x.a6 bF) v (by rw [dL, aa]; rfl) hv)⟩
  ·rintro ⟨vs, e, hl, h⟩;refine ⟨vs, e, by simpa using hl, fun i x v aa hv => ?_⟩;rw [dL] at aa;cases ai : xs[i]? with
   | none => rw [ai] at aa; cases aa
   | some y => rw [ai] at aa; cases aa; exact gh.a6.2 (h i y v ai hv)
theorem AC.Fg {x : AC} {j : Nat} (h : (x.a6 bF).owns j) : ∃ i, x.owns i ∧ j = bF i := by
 cases x with
 | own k o => exact ⟨k, rfl, h⟩
 | c v => cases h
 | p R => cases h
theorem AC.EL {x : AC} {j : Nat} (h : x.owns j) : (x.a6 bF).owns (bF j) := by
 cases x with
 | own k o => cases h; rfl
 | c v => cases h
 | p R => cases h
theorem bA.MS (x : bA) : (x.a6 bF).cells = x.cells.map (AC.a6 bF) := by cases x <;> rfl
theorem ah.Fg {x : ah} {j : Nat} (h : (x.a6 bF).owns j) : ∃ i, x.owns i ∧ j = bF i := by
 have key : ∀ y : bA, (y.a6 bF).owns j → ∃ i, y.owns i ∧ j = bF i := by
  rintro y ⟨z, aN, ae⟩;rw [bA.MS] at aN;obtain ⟨u, hu, rfl⟩ := gV.1 aN;obtain ⟨i, h1, h2⟩ := AC.Fg ae;exact ⟨i, ⟨u, hu, h1⟩, h2⟩
 cases x with
 | w x => exact key x h
 | cz xs =>
  obtain ⟨y, ai, ae⟩ := h;obtain ⟨u, hu, rfl⟩ := gV.1 ai;obtain ⟨i, h1, h2⟩ := key u ae;exact ⟨i, ⟨u, hu, h1⟩, h2⟩
theorem ah.EL {x : ah} {j : Nat} (h : x.owns j) : (x.a6 bF).owns (bF j) := by
 have key : ∀ y : bA, y.owns j → (y.a6 bF).owns (bF j) := by
  rintro y ⟨z, aN, ae⟩;exact ⟨z.a6 bF, by rw [bA.MS]; exact gV.2 ⟨z, aN, rfl⟩, AC.EL ae⟩
 cases x with
 | w x => exact key x h
 | cz xs =>
  obtain ⟨y, ai, ae⟩ := h;exact ⟨y.a6 bF, gV.2 ⟨y, ai, rfl⟩, key y ae⟩
theorem Mem.r8 {m : Mem} {j : Nat} {cs : List AC} (h : Mem.a6 bF m j = some cs) : ∃ ds, m (bF j) = some ds ∧ cs = ds.map (AC.a6 bF) := by
 unfold Mem.a6 at h;cases hm : m (bF j) with
 | none => rw [hm] at h; cases h
 | some ds => rw [hm] at h; exact ⟨ds, rfl, (lc h).symm⟩
theorem Mem.r7 (fE : ∀ j, bF (bF j) = j) {m : Mem} {k : Nat} {cs : List AC} (h : m k = some cs) : Mem.a6 bF m (bF k) = some (cs.map (AC.a6 bF)) := by
 unfold Mem.a6; rw [fE, h]; rfl
theorem er.a6 (fE : ∀ j, bF (bF j) = j) (fM : ∀ j, ca (iV j) = j) {m : Mem} {R : aI} {b : Nat} : er ad (m.a6 bF) (R.a6 ca) b ↔ er (fun k => ad (bF k)) m R b := by
 constructor
 ·rintro (⟨k, cs, af, e⟩ | ⟨i, r, hi, an⟩)
  ·obtain ⟨ds, h1, _⟩ := Mem.r8 af;exact .inl ⟨bF k, ds, h1, by simp only [fE]; exact e⟩
  ·exact .inr ⟨ca i, r, hi, an⟩
 ·rintro (⟨k, cs, af, e⟩ | ⟨i, r, hi, an⟩)
  ·exact .inl ⟨bF k, _, Mem.r7 fE af, e⟩
  ·exact .inr ⟨iV i, r, by unfold aI.a6; rw [fM]; exact hi, an⟩
theorem e9.a6 (fE : ∀ j, bF (bF j) = j) (fM : ∀ j, ca (iV j) = j) (wj : ∀ j, iV (ca j) = j) {m : Mem} {R : aI} : e9 U ad W (m.a6 bF) (R.a6 ca) ↔ e9 U (fun k => ad (bF k)) W m R := by
 have PA : ∀ {a b : Nat}, bF a = bF b → a = b := fun {a b} h => by rw [← fE a, h, fE]
 have abz : ∀ {a b : Nat}, ca a = ca b → a = b := fun {a b} h => by rw [← wj a, h, wj]
 have abA : ∀ {a b : Nat}, iV a = iV b → a = b := fun {a b} h => by rw [← fM a, h, fM]
 constructor
 ·intro h;refine ⟨fun k cs af => ?_, fun k cs x j af aa ae => ?_, fun k k' cs ar af eP e => ?_, fun i r hi => ?_, fun i j r q hi ae e0 g an => h.apart (iV i) (iV j) r q (by unfold aI.a6; rw [fM]; exact hi) (by unfold aI.a6; rw [fM]; exact ae) (fun e => e0 (abA e)) g an⟩
  ·obtain ⟨vs, ty, h1, h2, h3⟩ := h.dz (bF k) _ (Mem.r7 fE af);exact ⟨vs, ty, h1, bM.a6.1 h2, h3⟩
  ·obtain ⟨ar, h1⟩ := h.fN (bF k) _ (x.a6 bF) (bF j) (Mem.r7 fE af) (gV.2 ⟨x, aa, rfl⟩) (AC.EL ae);obtain ⟨ds, h2, _⟩ := Mem.r8 h1;rw [fE] at h2;exact ⟨ds, h2⟩
  ·exact PA (h.inj (bF k) (bF k') _ _ (Mem.r7 fE af) (Mem.r7 fE eP) e)
  ·obtain ⟨h1, h3, aD⟩ := h.rows (iV i) r (by unfold aI.a6; rw [fM]; exact hi);exact ⟨h1.kept h3 (fun _ _ => rfl) (dI _) (fun b ab _ => ⟨ab, rfl⟩), h3, fun g an => ⟨(aD g an).1, fun k cs af => (aD g an).2 (bF k) _ (Mem.r7 fE af)⟩⟩
 ·intro h;refine ⟨fun k cs af => ?_, fun k cs x j af aa ae => ?_, fun k k' cs ar af eP e => ?_, fun i r hi => ?_, fun i j r q hi ae e0 g an => h.apart (ca i) (ca j) r q hi ae (fun e => e0 (abz e)) g an⟩
  ·obtain ⟨ds, aA, rfl⟩ := Mem.r8 af;obtain ⟨vs, ty, h1, h2, h3⟩ := h.dz (bF k) ds aA;simp only [fE] at h1 h3;exact ⟨vs, ty, h1, bM.a6.2 h2, h3⟩
  ·obtain ⟨ds, aA, rfl⟩ := Mem.r8 af;obtain ⟨y, ai, rfl⟩ := gV.1 aa;obtain ⟨i, h1, rfl⟩ := AC.Fg ae;obtain ⟨ar, h2⟩ := h.fN (bF k) ds y i aA ai h1;exact ⟨_, Mem.r7 fE h2⟩
  ·obtain ⟨ds, aA, _⟩ := Mem.r8 af;obtain ⟨XY, zx, _⟩ := Mem.r8 eP;exact PA (h.inj (bF k) (bF k') _ _ aA zx (by simp only [fE]; exact e))
  ·obtain ⟨h1, h3, aD⟩ := h.rows (ca i) r hi;refine ⟨h1.kept h3 (fun _ _ => rfl) (dI _) (fun b ab _ => ⟨ab, rfl⟩), h3, fun g an => ⟨(aD g an).1, fun k cs af => ?_⟩⟩;obtain ⟨ds, aA, _⟩ := Mem.r8 af;have := (aD g an).2 (bF k) ds aA;simpa only [fE] using this
theorem du.a6 (fE : ∀ j, bF (bF j) = j) (fM : ∀ j, ca (iV j) = j) (wj : ∀ j, iV (ca j) = j) {f : FuncId} {args : List ah} {m0 : Mem} {R0 : aI} {Post : ah → Mem → aI → Prop} (h : du P f args m0 R0 Post) :
  du P f (args.map (ah.a6 bF)) (m0.a6 bF) (R0.a6 ca) fun r aH ay => ∃ bV m1 bf, Post bV m1 bf ∧ r = bV.a6 bF ∧ aH = Mem.a6 bF m1 ∧ ay = aI.a6 ca bf := by
 refine ⟨fun U ad W vs cq cy cW => ?_⟩;have abb : kD U (fun k => ad (bF k)) W args vs := ⟨by simpa using cW.1, fun i x v aa hv => de.a6.1 (cW.2 i (x.a6 bF) v (by rw [dL, aa]; rfl) hv)⟩;refine (h.call U (fun k => ad (bF k)) W vs ((e9.a6 fE fM wj).1 cq) (fun x aa j ae => ?_) abb).mono ?_
 ·obtain ⟨cs, h1⟩ := cy (x.a6 bF) (gV.2 ⟨x, aa, rfl⟩) (bF j) (ah.EL ae);obtain ⟨ds, h2, _⟩ := Mem.r8 h1;rw [fE] at h2;exact ⟨ds, h2⟩
 ·rintro e bk ⟨v, r, aH, ay, aX, cR, rfl, h1, h2, h3, aD, cU, fs, kb, qq, jB⟩;have aG : (fun k => (fun k => aX (bF k)) (bF k)) = aX := by funext k; simp only [fE]
  refine ⟨v, r.a6 bF, aH.a6 bF, ay.a6 ca, fun k => aX (bF k), cR, rfl, ⟨r, aH, ay, h1, rfl, rfl, rfl⟩, (e9.a6 fE fM wj).2 (by rw [aG]; exact h2), de.a6.2 (by rw [aG]; exact h3), fun j ae => ?_, fun k cs af => ?_, fun i q hi => ?_, fun b ab => ?_, fun b ab => ?_, ⟨jB.os, jB.tape, jB.output, jB.size, fun b ab => jB.block b ⟨ab.1, fun aR => ab.2 ((er.a6 fE fM).2 aR)⟩⟩⟩
  ·obtain ⟨i, q1, rfl⟩ := ah.Fg ae;obtain ⟨cs, q2⟩ := aD i q1;exact ⟨_, Mem.r7 fE q2⟩
  ·obtain ⟨ds, q0, _⟩ := Mem.r8 af;obtain ⟨q1, ar, q2⟩ := cU (bF k) ds q0;refine ⟨by show aX (bF k) = ad k; rw [q1, fE], ?_⟩;have := Mem.r7 fE q2;rw [fE] at this;exact ⟨_, this⟩
  ·exact fs (ca i) q hi
  ·rcases kb b ab with q | q | q
   ·exact .inl q
   ·exact .inr (.inl q)
   ·exact .inr (.inr ((er.a6 fE fM).2 q))
  ·have : er (fun k => (fun k => aX (bF k)) (bF k)) aH ay b := (er.a6 fE fM).1 ab;rw [aG] at this;rcases qq b this with q | q
   ·exact .inl ((er.a6 fE fM).2 q)
   ·exact .inr q
end
def swp (a b j : Nat) : Nat := if j = a then b else if j = b then a else j
theorem nv (a b j : Nat) : swp a b (swp a b j) = j := by
 unfold swp
 by_cases h1 : j = a
 ·subst h1
  by_cases h2 : b = j
  ·simp [h2]
  ·simp [h2]
 ·by_cases h2 : j = b
  ·subst h2; simp [h1]
  ·simp [h1, h2]
theorem Bx (a b : Nat) : swp a b a = b := by simp [swp]
theorem TB (a b : Nat) : swp a b b = a := by unfold swp; by_cases h : b = a <;> simp [h]
theorem SP {bF : Nat → Nat} {x : AC} (h : x.aZ = true) : x.a6 bF = x := by cases x <;> first | rfl | cases h
theorem SQ {bF : Nat → Nat} {xs : List AC} (h : xs.all AC.aZ = true) : xs.map (AC.a6 bF) = xs := by
 rw [cB] at h
 conv => rhs; rw [← List.map_id xs]
 exact np fun x aa => SP (h x aa)
theorem u6 {bF : Nat → Nat} {x : ah} (h : x.aZ = true) : x.a6 bF = x := by
 have key : ∀ y : bA, y.aZ = true → y.a6 bF = y := fun y ai => by
  cases y with
  | one x => show bA.one (x.a6 bF) = _; rw [SP ai]
  | agg xs => show bA.agg (xs.map _) = _; rw [SQ ai]
 cases x with
 | w x => show ah.w (x.a6 bF) = _; rw [key x h]
 | cz xs =>
  show ah.cz (xs.map _) = _;congr 1;have aM : ∀ x ∈ xs, x.aZ = true := cB.1 h
  conv => rhs; rw [← List.map_id xs]
  exact np fun x aa => key x (aM x aa)
theorem wx {k j : Nat} {cs : List AC} (h : cs.all AC.aZ = true) : Mem.a6 (swp k j) (cZ k cs) = cZ j cs := by
 funext i;unfold Mem.a6 cZ
 by_cases e : i = j
 ·subst e; rw [TB, cF, cF, hr, SQ h]
 ·rw [ct _ _ e, ct _ _ (fun aO => e (by rw [← nv k j i, aO, Bx]))]; rfl
theorem Bh {k j : Nat} {r : bG} : aI.a6 (swp k j) (bC k r) = bC j r := by
 funext i;unfold aI.a6 bC
 by_cases e : i = j
 ·subst e; rw [TB, cF, cF]
 ·rw [ct _ _ e, ct _ _ (fun aO => e (by rw [← nv k j i, aO, Bx]))]; rfl
def rf (P : Program) (f : FuncId) (args : List ah) (cs : List AC) (r : bG) (post : ah → List AC → bG → Prop) : Prop :=
 ∀ k i, du P f (.w (.one (.own k 0)) :: args) (cZ k cs) (bC i r) fun v aH ay => ∃ ar aV, aH = cZ k ar ∧ ay = bC i aV ∧ post v ar aV
theorem uN {P : Program} {f : FuncId} {args : List ah} {cs : List AC} {r : bG} {post : ah → List AC → bG → Prop} (aF : args.all ah.aZ = true) (aj : cs.all AC.aZ = true) (hp : ∀ v ar aV, post v ar aV → v.aZ = true ∧ ar.all AC.aZ = true)
  (h : du P f (.w (.one (.own 1000 0)) :: args) (cZ 1000 cs) (bC 0 r) fun v aH ay => ∃ ar aV, aH = cZ 1000 ar ∧ ay = bC 0 aV ∧ post v ar aV) : rf P f args cs r post := by
 intro k i;have h1 := h.a6 (bF := swp 1000 k) (ca := swp 0 i) (iV := swp 0 i) (nv _ _) (nv _ _) (nv _ _)
 have aG : (ah.w (.one (.own 1000 0)) :: args).map (ah.a6 (swp 1000 k)) = .w (.one (.own k 0)) :: args := by
  have aO : args.map (ah.a6 (swp 1000 k)) = args := by
   rw [cB] at aF
   conv => rhs; rw [← List.map_id args]
   exact np fun x aa => u6 (aF x aa)
  rw [jJ, aO];show ah.w (.one (.own (swp 1000 k 1000) 0)) :: args = _;rw [Bx]
 rw [aG, wx aj, Bh] at h1;refine ⟨fun U ad W vs cq cy cW => (h1.call U ad W vs cq cy cW).mono ?_⟩;rintro e bk ⟨v, bV, aH, ay, aX, cR, q0, ⟨cC, m2, ev, ⟨ar, aV, rfl, rfl, ak⟩, rfl, rfl, rfl⟩, q⟩;obtain ⟨c1, c2⟩ := hp _ _ _ ak;rw [wx c2, Bh, u6 c1] at q;exact ⟨v, cC, cZ k ar, bC i aV, aX, cR, q0, ⟨ar, aV, rfl, rfl, ak⟩, q⟩
section
variable {P : Program} {R : aI} {s : aC} {ops : Array Oper} {dr : Option (List Nat)} {ty : Nat} {pos : String} {after : Array Edge} {guard : Option (Nat × Bool)} {K : aI → aC → Prop} {rest : List Oper}
def lp (dst : Option Nat) (n : Nat) : Bool := match dst with
 | some d => Nat.blt d n
 | none => true
theorem Nk {dst : Option Nat} {n : Nat} (h : lp dst n = true) : ∀ d, dst = some d → d < n := fun d e => by subst e; simpa [lp, Nat.blt_eq] using h
theorem we {dst : Option Nat} {f : FuncId} {g : Operand} {aL : Array TypeId} {l : List Operand} {args : List ah} {m0 : Mem} {R0 : aI} {Post : ah → Mem → aI → Prop} [E : Enters P f] (hw : want ops ⟨dst, .call ⟨.value g, l.toArray, aL⟩, ty, pos, after, guard⟩ s = some true) (hm : cY dr ⟨dst, .call ⟨.value g, l.toArray, aL⟩, ty, pos, after, guard⟩ = true)
  (an : s.look g = some (aQ (.func (.func f) #[] #[]))) (aF : l.map s.look = args.map some) (hp : du P f args m0 R0 Post) (az : ∀ x ∈ args, ∀ j, x.owns j → ∃ cs, m0 j = some cs) (nO : ∀ k cs, m0 k = some cs → s.mem k = some cs ∧ (pU dr k = true ∨ ∀ r aH ay, Post r aH ay → aH k = some cs)) (al : bx R0 R) (fN : ∀ k cs x j, m0 k = some cs → x ∈ cs → x.owns j → ∃ ar, m0 j = some ar) (hd : lp dst s.n = true)
  (h : ∀ r aH ay, Post r aH ay → (∀ k ar, aH k = some ar → (∃ cs, m0 k = some cs) ∨ (s.mem k = none ∧ k < s.n)) ∧ cT P ops dr K rest (bX ay R) ((s.over aH).put dst r)) : cT P ops dr K (⟨dst, .call ⟨.value g, l.toArray, aL⟩, ty, pos, after, guard⟩ :: rest) R s := by
 refine ⟨true, hw, Nk hd, .inr (.inr (.inr (.inr (.inl ⟨rfl, hm, f, args, m0, R0, Post, ⟨⟨_, g, rfl, rfl, .inl ⟨[], an, ?_, rfl⟩⟩, E.h⟩, hp, az, nO, al, fN, fun r aH ay h1 _ _ _ => h r aH ay h1⟩))))⟩;simpa using aF
theorem O9 (k i : Nat) {dst : Option Nat} {f : FuncId} {g : Operand} {aL : Array TypeId} {l : List Operand} {args : List ah} {cs : List AC} {r : bG} {post : ah → List AC → bG → Prop} [E : Enters P f] (hw : want ops ⟨dst, .call ⟨.value g, l.toArray, aL⟩, ty, pos, after, guard⟩ s = some true) (hm : cY dr ⟨dst, .call ⟨.value g, l.toArray, aL⟩, ty, pos, after, guard⟩ = true)
  (an : s.look g = some (aQ (.func (.func f) #[] #[]))) (aF : l.map s.look = (ah.w (.one (.own k 0)) :: args).map some) (hp : rf P f args cs r post) (af : s.mem k = some cs) (hR : pU dr k = true ∨ ∀ v ar aV, post v ar aV → ar = cs) (hi : R i = some r) (aj : cs.all AC.aZ = true) (eo : args.all ah.aZ = true) (hd : lp dst s.n = true)
  (h : ∀ v ar aV, post v ar aV → cT P ops dr K rest (bI R i aV) ((s.ej k ar).put dst v)) : cT P ops dr K (⟨dst, .call ⟨.value g, l.toArray, aL⟩, ty, pos, after, guard⟩ :: rest) R s := by
 refine we hw hm an aF (hp k i) (fun x aa j ae => ?_) (fun k' ar aM => ?_) (fun eH aV aM => ?_) (fun k' ar x j aM aa ae => ?_) hd ?_
 ·rcases fl.1 aa with rfl | aa
  ·obtain ⟨y, ai, ae⟩ := ae;simp [bA.cells] at ai;subst ai;cases ae;exact ⟨cs, by unfold cZ; exact cF _ _ _⟩
  ·exact absurd ae (ah.dC (cB.1 eo x aa) j)
 ·obtain ⟨rfl, rfl⟩ := hW aM;refine ⟨af, hR.imp id fun hu => ?_⟩;rintro v aH ay ⟨ar, aV, rfl, rfl, ak⟩;rw [hu v ar aV ak]; unfold cZ; exact cF _ _ _
 ·obtain ⟨rfl, rfl⟩ := fO aM; exact hi
 ·obtain ⟨rfl, rfl⟩ := hW aM;exact absurd ae (AC.dC (cB.1 aj x aa) j)
 ·rintro v aH ay ⟨ar, aV, rfl, rfl, ak⟩;refine ⟨fun k' c aM => ?_, ?_⟩
  ·obtain ⟨rfl, rfl⟩ := hW aM;exact .inl ⟨cs, by unfold cZ; exact cF _ _ _⟩
  ·have aG : bX (bC i aV) R = bI R i aV := wI R i aV
   have aO : s.over (cZ k ar) = s.ej k ar := by
    show ({ s with mem := bX (bI cj k ar) s.mem } : aC) = { s with mem := bI s.mem k ar };rw [show bX (bI cj k ar) s.mem = bI s.mem k ar from wI s.mem k ar]
   rw [aG, aO];exact h v ar aV ak
theorem s0 (k i : Nat) {dst : Option Nat} {f : FuncId} {g : Operand} {aL : Array TypeId} {l : List Operand} {args : List ah} {cs : List AC} {r : bG} {post : ah → List AC → bG → Prop} [E : Enters P f] (hw : want ops ⟨dst, .call ⟨.value g, l.toArray, aL⟩, ty, pos, after, guard⟩ s = some true) (hm : cY dr ⟨dst, .call ⟨.value g, l.toArray, aL⟩, ty, pos, after, guard⟩ = true)
  (an : s.look g = some (aQ (.func (.func f) #[] #[]))) (aF : l.map s.look = (ah.w (.one (.own k 0)) :: args).map some) (hp : rf P f args cs r post) (af : s.mem k = some cs) (hR : pU dr k = true) (hi : R i = some r) (aj : cs.all AC.aZ = true) (eo : args.all ah.aZ = true) (hd : lp dst s.n = true)
  (h : ∀ v ar aV, post v ar aV → cT P ops dr K rest (bI R i aV) ((s.ej k ar).put dst v)) : cT P ops dr K (⟨dst, .call ⟨.value g, l.toArray, aL⟩, ty, pos, after, guard⟩ :: rest) R s :=
 O9 k i hw hm an aF hp af (.inl hR) hi aj eo hd h
theorem IF (k i : Nat) {dst : Option Nat} {f : FuncId} {g : Operand} {aL : Array TypeId} {l : List Operand} {args : List ah} {cs : List AC} {r : bG} {post : ah → List AC → bG → Prop} [E : Enters P f] (hw : want ops ⟨dst, .call ⟨.value g, l.toArray, aL⟩, ty, pos, after, guard⟩ s = some true) (hm : cY dr ⟨dst, .call ⟨.value g, l.toArray, aL⟩, ty, pos, after, guard⟩ = true)
  (an : s.look g = some (aQ (.func (.func f) #[] #[]))) (aF : l.map s.look = (ah.w (.one (.own k 0)) :: args).map some) (hp : rf P f args cs r post) (af : s.mem k = some cs) (hR : ∀ v ar aV, post v ar aV → ar = cs) (hi : R i = some r) (aj : cs.all AC.aZ = true) (eo : args.all ah.aZ = true) (hd : lp dst s.n = true)
  (h : ∀ v ar aV, post v ar aV → cT P ops dr K rest (bI R i aV) ((s.ej k ar).put dst v)) : cT P ops dr K (⟨dst, .call ⟨.value g, l.toArray, aL⟩, ty, pos, after, guard⟩ :: rest) R s :=
 O9 k i hw hm an aF hp af (.inr hR) hi aj eo hd h
theorem Wu {x : Operand} {d k off : Nat} {K : aC → Prop} (hw : want ops ⟨some d, .nilCheck x, ty, pos, after, guard⟩ s = some true) (aa : s.look x = some (.w (.one (.own k off)))) (hd : Nat.blt d s.n = true) (h : bg P ops K rest (s.put (some d) (.w (.one (.own k off))))) : bg P ops K (⟨some d, .nilCheck x, ty, pos, after, guard⟩ :: rest) s := by
 refine gi hw ⟨fun _ _ h => (by cases h), fun y ai => ?_, fun U ad W env he => ?_, fun j ae => ⟨x, by simp [Op.operands], _, aa, ae⟩⟩ hd h
 ·simp [Op.operands] at ai;subst ai;exact ⟨_, aa⟩
 ·have hv : env x = .pointer (some ⟨ad k, off, none⟩) := he x (by simp [Op.operands]) _ aa;exact ⟨_, by simp only [execOp, hv]; rfl, rfl⟩
end
section
variable {P : Program}
theorem ew {n : Nat} {cs : List AC} (h : Nat.ble n 1000 = true) : ∀ k ar, cZ 1000 cs k = some ar → n ≤ k := fun k ar af => by
 obtain ⟨rfl, _⟩ := hW af;exact dA h
theorem oo {n : Nat} : ∀ k ar, cj k = some ar → n ≤ k := fun k ar af => by cases af
theorem rM {fn : Func} {l : List ResultVar} {xs : List bA} {R : aI} {s : aC} {cs ar : List AC} {r aV : bG} {post : ah → List AC → bG → Prop} (al : fn.results = l.toArray) (h : l.map (jl P s) = xs.map some) (af : s.mem 1000 = some ar) (hi : R 0 = some aV) (aj : ar.all AC.aZ = true) (aa : (packed xs).aZ = true)
  (hp : post (packed xs) ar aV) : uo P fn (cZ 1000 cs) (bC 0 r) (fun v aH ay => ∃ ar aV, aH = cZ 1000 ar ∧ ay = bC 0 aV ∧ post v ar aV) R s := by
 refine ⟨xs, packed xs, cZ 1000 ar, bC 0 aV, by rw [al]; exact h, .refl _, ⟨ar, aV, rfl, rfl, hp⟩, fun k c h => ?_, fun i q h => ?_, fun j ae => absurd ae (ah.dC aa j), fun k c x j h aa ae => ?_, fun k c h => ?_, fun i q h => ?_⟩
 ·obtain ⟨rfl, rfl⟩ := hW h; exact af
 ·obtain ⟨rfl, rfl⟩ := fO h; exact hi
 ·obtain ⟨rfl, rfl⟩ := hW h; exact absurd ae (AC.dC (cB.1 aj x aa) j)
 ·obtain ⟨rfl, rfl⟩ := hW h; exact ⟨ar, by unfold cZ; exact cF _ _ _⟩
 ·obtain ⟨rfl, rfl⟩ := fO h; exact ⟨aV, by unfold bC; exact cF _ _ _⟩
def AC.yi (k : Nat) : AC → Bool
 | .own j _ => Nat.beq j k
 | _ => true
def ah.yi (k : Nat) : ah → Bool
 | .w x => x.cells.all (AC.yi k)
 | .cz xs => xs.all fun x => x.cells.all (AC.yi k)
theorem ah.aeu {k j : Nat} {x : ah} (h : x.yi k = true) (ae : x.owns j) : j = k := by
 have key : ∀ y : bA, y.cells.all (AC.yi k) = true → y.owns j → j = k := by
  rintro y ai ⟨z, aN, Aw⟩;have := cB.1 ai z aN;cases z with
  | own i o => cases Aw; exact gL this
  | c v => cases Aw
  | p R => cases Aw
 cases x with
 | w y => exact key y h ae
 | cz xs =>
  obtain ⟨y, ai, mB⟩ := ae;exact key y (cB.1 h y ai) mB
end
abbrev ai9 : ah := aQ (.slice none 0 0)
theorem QV (z : Nat) : ai9.aK (cK z 0 []) := fun U ad W v h => by
 obtain ⟨rfl, _⟩ := h;exact ⟨⟨none, 0, rfl, dI _, by simp, fun h => absurd h (Nat.lt_irrefl _)⟩, fun b ⟨c, a, q, aw, _⟩ => absurd aw (Nat.lt_irrefl _)⟩
section
variable {P : Program} {R : aI} {s : aC} {ops : Array Oper} {dr : Option (List Nat)} {ty : Nat} {pos : String} {after : Array Edge} {guard : Option (Nat × Bool)} {K : aI → aC → Prop} {rest : List Oper}
end
end Go.Proofs.YtbcecodakfejaaaGreat
namespace Go.Proofs.YtbcecodakfejaaaGreat
def hc : List Int → Int → Int
 | [], x => x
 | d :: ds, x => d + 10000 * hc ds x
def bQ (ds : List Int) : Int := hc ds 0
def dM (ds : List Int) : Prop := ∀ d ∈ ds, 0 ≤ d ∧ d < 10000
def hi (ds : List Int) (k : Nat) : Int := bQ (ds.drop k)
def rc (ds : List Int) : Prop := 0 < ds.length → ds.getD (ds.length - 1) 0 ≠ 0
theorem Ha (a b : List Int) (x : Int) : hc (a ++ b) x = hc a (hc b x) := by
 induction a with
 | nil => rfl
 | cons d ds b9 => simp only [List.cons_append, hc, b9]
theorem xw (a : List Int) (d x : Int) : hc (a ++ [d]) x = hc a (d + 10000 * x) := Ha a [d] x
theorem dM.tail {d : Int} {ds : List Int} (h : dM (d :: ds)) : dM ds := fun x aa => h x (pJ _ aa)
theorem dM.head {d : Int} {ds : List Int} (h : dM (d :: ds)) : 0 ≤ d ∧ d < 10000 := h d lI
theorem dM.nil : dM [] := fun d h => by cases h
theorem dM.snoc {ds : List Int} {d : Int} (h : dM ds) (aA : 0 ≤ d) (h1 : d < 10000) : dM (ds ++ [d]) := by
 intro x aa;rcases h0.1 aa with k | k
 ·exact h x k
 ·obtain rfl : x = d := by simpa using k
  exact ⟨aA, h1⟩
theorem dM.take {ds : List Int} (h : dM ds) (k : Nat) : dM (ds.take k) := fun x aa => h x (n2 aa)
theorem dM.drop {ds : List Int} (h : dM ds) (k : Nat) : dM (ds.drop k) := fun x aa => h x (nn aa)
theorem dM.set {ds : List Int} (h : dM ds) (k : Nat) {d : Int} (aA : 0 ≤ d) (h1 : d < 10000) : dM (ds.set k d) := by
 intro x aa;rcases List.mem_or_eq_of_mem_set aa with k | k
 ·exact h x k
 ·exact k ▸ ⟨aA, h1⟩
theorem dM.getD {ds : List Int} (h : dM ds) (k : Nat) : 0 ≤ ds.getD k 0 ∧ ds.getD k 0 < 10000 := by
 by_cases e : k < ds.length
 ·rw [gF, bN e];exact h _ (List.getElem_mem e)
 ·rw [gF, lJ (by omega)];exact ⟨by decide, by decide⟩
theorem X5 {a : List Int} (h : dM a) {x : Int} (aa : x < 0) : hc a x < 0 := by
 induction a with
 | nil => exact aa
 | cons d ds b9 => have := h.head; have := b9 h.tail; simp only [hc]; omega
theorem X6 {a : List Int} (h : dM a) {x : Int} (aa : 0 ≤ x) : 0 ≤ hc a x := by
 induction a with
 | nil => exact aa
 | cons d ds b9 => have := h.head; have := b9 h.tail; simp only [hc]; omega
theorem xv {a : List Int} (h : dM a) : 0 ≤ bQ a := X6 h (by omega)
theorem aaf {a : List Int} (h : dM a) (k : Nat) : 0 ≤ hi a k := xv (h.drop k)
theorem CM (d : Int) (ds : List Int) : bQ (d :: ds) = d + 10000 * bQ ds := rfl
theorem Nl : bQ [] = 0 := rfl
theorem sV (a : List Int) : hi a 0 = bQ a := rfl
theorem nM (a : List Int) (k : Nat) : hi a k = a.getD k 0 + 10000 * hi a (k + 1) := by
 unfold hi
 by_cases e : k < a.length
 ·rw [nm e, CM, gF, bN e]; rfl
 ·rw [List.drop_eq_nil_of_le (by omega), List.drop_eq_nil_of_le (by omega), gF, lJ (by omega)]; rfl
theorem sU (a : List Int) {k : Nat} (h : a.length ≤ k) : hi a k = 0 := by
 unfold hi; rw [List.drop_eq_nil_of_le h]; rfl
theorem X2 (a : List Int) (k : Nat) : hc (a.take k) (hi a k) = bQ a := by
 unfold hi bQ; rw [← Ha, kr]
theorem X1 {ds : List Int} (h : dM ds) : bQ ds < 10000 ^ ds.length := by
 induction ds with
 | nil => decide
 | cons d ds b9 => have := h.head; have := b9 h.tail; rw [CM, jj, n5]; omega
theorem Sh (k : Nat) : (0 : Int) < 10000 ^ k := hL (by decide)
theorem Sg {k j : Nat} (h : k ≤ j) : (10000 : Int) ^ k ≤ 10000 ^ j := by
 obtain ⟨d, rfl⟩ := Nat.exists_eq_add_of_le h;clear h
 induction d with
 | zero => exact oI _
 | succ d b9 => have := Sh (k + d); rw [← pM, n5]; omega
theorem adU {ds : List Int} (h : dM ds) (n : rc ds) (k : Nat) (e : ds.length = k + 1) : (10000 : Int) ^ k ≤ bQ ds := by
 induction ds generalizing k with
 | nil => cases e
 | cons d ds b9 =>
  rw [CM];have aR := h.head;cases k with
  | zero =>
   obtain rfl : ds = [] := ks (by simpa using e);have := n (by simp);simp at this;show (1 : Int) ≤ _;rw [Nl];omega
  | succ k =>
   have hl : ds.length = k + 1 := by simpa using e
   have n' : rc ds := by
    intro hp;have := n (by simp);rw [jj, hl] at this;rw [hl];simpa using this
   have := b9 h.tail n' k hl;rw [n5];omega
theorem QW {ds : List Int} (h : dM ds) (n : rc ds) {k : Nat} (af : bQ ds < 10000 ^ k) : ds.length ≤ k := by
 rcases gK k ds.length with bb | jR
 ·exfalso;obtain ⟨j, ae⟩ : ∃ j, ds.length = j + 1 := ⟨ds.length - 1, by omega⟩;have h1 := adU h n j ae;have h2 : (10000 : Int) ^ k ≤ 10000 ^ j := Sg (by omega);omega
 ·exact jR
theorem adW {ds : List Int} (h : dM ds) (n : rc ds) (e : bQ ds = 0) : ds = [] := by
 have := QW h n (k := 0) (by rw [e]; decide);exact ks (by omega)
theorem QX : rc [] := fun h => by cases h
theorem Tw (k : Nat) : ∀ {a b : List Int}, dM a → dM b → a.getD k 0 < b.getD k 0 → hi a (k + 1) = hi b (k + 1) → bQ a < bQ b := by
 induction k with
 | zero =>
  intro a b aF ab h e;have h1 := nM a 0; have h2 := nM b 0;rw [sV] at h1 h2;have := aF.getD 0; have := ab.getD 0;simp only [j3] at *;omega
 | succ k b9 =>
  intro a b aF ab h e;have h1 := nM a 0; have h2 := nM b 0;rw [sV] at h1 h2;have t1 : hi a (0 + 1) = bQ (a.drop 1) := rfl;have t2 : hi b (0 + 1) = bQ (b.drop 1) := rfl
  have := b9 (aF.drop 1) (ab.drop 1) (by
   rw [gF, gF, fY, fY, oK 1 k];rw [gF, gF] at h;exact h) (by
   unfold hi at *;rw [qT, qT, oK 1 (k + 1)];exact e)
  have := aF.getD 0; have := ab.getD 0;omega
theorem ago {out a b : List Int} {k : Nat} {c : Int} {T : Int} (h : hc out (c + hi a k + hi b k) = T) :
  hc (out ++ [(c + a.getD k 0 + b.getD k 0) % 10000]) ((c + a.getD k 0 + b.getD k 0) / 10000 + hi a (k + 1) + hi b (k + 1)) = T := by
 rw [xw, ← h];congr 1;have := nM a k; have := nM b k;omega
theorem adk {out a b : List Int} {k : Nat} {c x : Int} {T : Int} (h : hc out (hi a k - hi b k - c) = T) {c' : Int} (aa : x - 10000 * c' = a.getD k 0 - b.getD k 0 - c) :
  hc (out ++ [x]) (hi a (k + 1) - hi b (k + 1) - c') = T := by
 rw [xw, ← h];congr 1;have := nM a k; have := nM b k;omega
theorem adg {out a b : List Int} {c : Int} (az : dM out) (ab : dM b) (aj : 0 ≤ c) (hle : bQ b ≤ bQ a) (h : hc out (hi a a.length - hi b a.length - c) = bQ a - bQ b) : bQ out = bQ a - bQ b := by
 rw [sU a (dI _)] at h;have h1 := aaf ab a.length
 by_cases e : hi b a.length + c = 0
 ·rw [show (0 - hi b a.length - c) = 0 by omega] at h;exact h
 ·have := X5 az (x := 0 - hi b a.length - c) (by omega);omega
end Go.Proofs.YtbcecodakfejaaaGreat
namespace Go.Proofs.YtbcecodakfejaaaGreat
theorem YS {o : List Int} {k : Nat} (af : k < o.length) (d : Int) : (o.set k d).getD k 0 = d := by
 rw [gF, List.getElem?_set_self af]; rfl
theorem getD_set_ne {o : List Int} {k j : Nat} (h : k ≠ j) (d : Int) : (o.set k d).getD j 0 = o.getD j 0 := by
 rw [gF, List.getElem?_set_ne h, gF]
theorem aag {o : List Int} {k j : Nat} (h : k < j) (d : Int) : hi (o.set k d) j = hi o j := by
 unfold hi; rw [List.drop_set_of_lt h]
theorem TH {o : List Int} {k j : Nat} (h : j ≤ k) (d : Int) : (o.set k d).take j = o.take j := by
 rw [List.take_set_of_le h]
theorem KH {o : List Int} {k : Nat} (h : k < o.length) : o.take (k + 1) = o.take k ++ [o.getD k 0] := by
 rw [mM h, gF, bN h]; rfl
def rY (o : List Int) (i k : Nat) : List Int := (o.drop i).take k
theorem adf {o : List Int} {i k : Nat} (h : i + k < o.length) : rY o i (k + 1) = rY o i k ++ [o.getD (i + k) 0] := by
 unfold rY;rw [KH (by rw [iC]; omega)];congr 2;rw [gF, fY, gF]
theorem ade {o : List Int} {i k : Nat} (d : Int) : rY (o.set (i + k) d) i k = rY o i k := by
 unfold rY;rw [List.drop_set, if_neg (by omega), TH (by omega)]
theorem mid_zero (o : List Int) (i : Nat) : rY o i 0 = [] := rfl
theorem aae (o : List Int) (i k : Nat) : hc (rY o i k) (hi o (i + k)) = hi o i := by
 unfold rY hi bQ;rw [← qT, ← Ha, kr]
def tM (o : List Int) (i k : Nat) (c x : Int) (b : List Int) (T : Int) : Prop := hc (rY o i k) (hi o (i + k) + c + x * hi b k) = T
theorem adx (o : List Int) (i : Nat) (x : Int) (b : List Int) : tM o i 0 0 x b (hi o i + x * bQ b) := by
 unfold tM;rw [mid_zero, sV];show hi o i + 0 + x * bQ b = _;rw [Int.add_zero]
theorem ady {o : List Int} {i k : Nat} {c x : Int} {b : List Int} {T : Int} (h : tM o i k c x b T) (af : i + k < o.length) {s : Int} (hs : s = c + o.getD (i + k) 0 + x * b.getD k 0) :
  tM (o.set (i + k) (s % 10000)) i (k + 1) (s / 10000) x b T := by
 unfold tM at *;rw [adf (by rw [List.length_set]; exact af), ade, YS af, xw, ← h, aag (by omega)];congr 1;have h1 := nM o (i + k);have h2 := nM b k;have h3 : x * hi b k = x * b.getD k 0 + 10000 * (x * hi b (k + 1)) := by rw [h2, Int.mul_add, Int.mul_left_comm]
 rw [h3, ← pM];generalize x * hi b (k + 1) = u at *;generalize x * b.getD k 0 = v at *;omega
theorem adw {o : List Int} {i k : Nat} {x : Int} {b : List Int} {T : Int} (h : tM o i k 0 x b T) (af : b.length ≤ k) : hi o i = T := by
 unfold tM at h;rw [sU b af, Int.mul_zero, Int.add_zero, Int.add_zero, aae] at h;exact h
def tN (o a b : List Int) (i : Nat) : Prop := hc (o.take i) (hi o i + hi a i * bQ b) = bQ a * bQ b
theorem adA {o a b : List Int} (h : bQ o = 0) : tN o a b 0 := by
 unfold tN;rw [sV, sV, h, Int.zero_add]; rfl
theorem adB {o bU a b : List Int} {i : Nat} (h : tN o a b i) (hl : i < bU.length) (aB : bU.take i = o.take i) (he : hi bU i = hi o i + a.getD i 0 * bQ b) : tN bU a b (i + 1) := by
 unfold tN at *;rw [KH hl, xw, aB, ← h];congr 1;have h1 := nM bU i;have h2 : hi a i * bQ b = a.getD i 0 * bQ b + 10000 * (hi a (i + 1) * bQ b) := by rw [nM a i, Int.add_mul, j5]
 rw [h2];generalize hi a (i + 1) * bQ b = u at *;generalize a.getD i 0 * bQ b = v at *;omega
theorem adz {o a b : List Int} {i : Nat} (h : tN o a b i) (hl : a.length ≤ i) : bQ o = bQ a * bQ b := by
 unfold tN at h;rw [sU a hl, Int.zero_mul, Int.add_zero, X2] at h;exact h
theorem X3 (n : Nat) : bQ (List.replicate n 0) = 0 := by
 induction n with
 | zero => rfl
 | succ n b9 => rw [List.replicate_succ, CM, b9]; rfl
theorem abJ (n : Nat) : dM (List.replicate n 0) := by
 intro d hd;obtain rfl : d = 0 := List.eq_of_mem_replicate hd;exact ⟨by decide, by decide⟩
theorem YT (n k : Nat) : (List.replicate n (0 : Int)).getD k 0 = 0 := by
 rw [gF, List.getElem?_replicate]
 split <;> rfl
theorem Nh {x y : Int} (aa : 0 ≤ x ∧ x < 10000) (ai : 0 ≤ y ∧ y < 10000) : 0 ≤ x * y ∧ x * y ≤ 99980001 := by
 refine ⟨ga aa.1 ai.1, ?_⟩;have h1 : x * y ≤ 9999 * y := lK (by omega) ai.1;omega
def h6 (neg : Bool) (n : Int) : Int := if neg then -n else n
theorem Tq (n : Int) : h6 false n = n := rfl
theorem Kw (n : Int) : h6 true n = -n := rfl
structure Std (neg : Bool) (ds : List Int) (n : Int) : Prop where
 dg : dM ds
 wC : rc ds
 sign : neg = true → ds ≠ []
 val : n = h6 neg (bQ ds)
theorem Std.pos {neg : Bool} {ds : List Int} {n : Int} (h : Std neg ds n) (aw : ds ≠ []) : 0 < bQ ds := by
 have h1 := xv h.dg;rcases Int.lt_or_eq_of_le h1 with k | k
 ·exact k
 ·exact absurd (adW h.dg h.wC k.symm) aw
theorem Std.JH {neg : Bool} {ds : List Int} {n : Int} (h : Std neg ds n) : neg = decide (n < 0) := by
 have h1 := xv h.dg;have hv := h.val;cases neg with
 | false => rw [Tq] at hv; symm; rw [kq]; omega
 | true => have := h.pos (h.sign rfl); rw [Kw] at hv; symm; rw [cg]; omega
theorem Std.abs {neg : Bool} {ds : List Int} {n : Int} (h : Std neg ds n) : bQ ds = n.natAbs := by
 have h1 := xv h.dg;have hv := h.val;cases neg with
 | false => rw [Tq] at hv; omega
 | true => rw [Kw] at hv; omega
theorem Std.len {neg : Bool} {ds : List Int} {n : Int} (h : Std neg ds n) {k : Nat} (af : (n.natAbs : Int) < 10000 ^ k) : ds.length ≤ k := QW h.dg h.wC (by rw [h.abs]; exact af)
theorem aiy {neg : Bool} {ds : List Int} {k : Nat} (hd : dM ds) (hv : bQ (ds.take k) = bQ ds) (aw : rc (ds.take k)) : Std (neg && decide (0 < (ds.take k).length)) (ds.take k) (h6 neg (bQ ds)) := by
 refine ⟨hd.take k, aw, fun h => ?_, ?_⟩
 ·simp only [c6, cg] at h;intro e;rw [e] at h;exact absurd h.2 (by decide)
 ·rw [hv]
  by_cases e : 0 < (ds.take k).length
  ·rw [cd e, Bool.and_true]
  ·have : ds.take k = [] := ks (by omega);rw [this, Nl] at hv;rw [← hv];cases neg <;> simp [h6]
end Go.Proofs.YtbcecodakfejaaaGreat
namespace Go.Proofs.YtbcecodakfejaaaGreat
open Go.RowKit
def e8 (w : World) (A : Option Addr) (l c : Nat) (ds : List Int) : Prop :=
 ds.length = l ∧ l ≤ c ∧ c ≤ 9223372036854775807 ∧ (0 < l → ∃ g, A = some ⟨g, 0, none⟩ ∧ g < w.heap.size ∧ ∀ j, j < l → w.cell? ⟨g, j, none⟩ = some (.int .i64 (ds.getD j 0)))
theorem e8.call {w w' : World} {A : Option Addr} {l c : Nat} {ds : List Int} (h : e8 w A l c ds) (ab : Below w.heap.size w w') : e8 w' A l c ds := by
 obtain ⟨h1, h2, h3, k⟩ := h;refine ⟨h1, h2, h3, fun b7 => ?_⟩;obtain ⟨g, rfl, an, aj⟩ := k b7;exact ⟨g, rfl, qQ an ab.size, fun j ae => (ab.cell (p := ⟨g, j, none⟩) an).trans (aj j ae)⟩
theorem e8.alloc {w : World} {A : Option Addr} {l c : Nat} {ds : List Int} (h : e8 w A l c ds) (o : Obj) : e8 (w.alloc o) A l c ds := h.call ((Below.refl _ _).alloc (dI _) o)
theorem e8.nil {w : World} {A : Option Addr} {c : Nat} (aj : c ≤ 9223372036854775807) : e8 w A 0 c [] := ⟨rfl, dJ _, aj, fun h => absurd h (by omega)⟩
theorem e8.take {w : World} {A : Option Addr} {l c : Nat} {ds : List Int} (h : e8 w A l c ds) {k : Nat} (af : k ≤ l) : e8 w A k c (ds.take k) := by
 obtain ⟨h1, h2, h3, aD⟩ := h;refine ⟨by rw [ei]; omega, by omega, h3, fun hp => ?_⟩;obtain ⟨g, e, an, aj⟩ := aD (by omega);refine ⟨g, e, an, fun j ae => ?_⟩;rw [aj j (by omega), gF, gF, fJ ae]
theorem e8.own {w : World} {base : Nat} {v : Value} {n : Nat} {ds : List Int} (h : w.ownsRow base 3 1 v n (ds.map (Value.int .i64))) : ∃ A c, v = .slice A n c ∧ e8 w A n c ds := by
 have hl : ds.length = n := by have := h.1; simpa using this
 have aR := h;rcases h.2 with ⟨rfl, rfl⟩ | ⟨g, cap, cur, rfl, ab, an, aw, hm, hs, aB⟩
 ·exact ⟨none, 0, rfl, hl, dI _, by omega, fun k => absurd k (by omega)⟩
 ·refine ⟨_, cap, rfl, hl, aw, by simpa [maxLen] using hm, fun _ => ⟨g, rfl, (j2.1 an).1, fun j ae => ?_⟩⟩;rw [aR.cellAt j (by omega), dL, bN (by omega), gF, bN (by omega)];rfl
def eu (w : World) (neg : Bool) (A : Option Addr) (l c : Nat) (n : Int) : Prop := ∃ ds, e8 w A l c ds ∧ Std neg ds n
theorem eu.call {w w' : World} {neg : Bool} {A : Option Addr} {l c : Nat} {n : Int} (h : eu w neg A l c n) (ab : Below w.heap.size w w') : eu w' neg A l c n := by
 obtain ⟨ds, h1, h2⟩ := h;exact ⟨ds, h1.call ab, h2⟩
theorem eu.JH {w : World} {neg : Bool} {A : Option Addr} {l c : Nat} {n : Int} (h : eu w neg A l c n) : neg = decide (n < 0) := by
 obtain ⟨ds, h1, h2⟩ := h;exact h2.JH
theorem eu.len {w : World} {neg : Bool} {A : Option Addr} {l c : Nat} {n : Int} (h : eu w neg A l c n) {k : Nat} (af : (n.natAbs : Int) < 10000 ^ k) : l ≤ k := by
 obtain ⟨ds, h1, h2⟩ := h;rw [← h1.1];exact h2.len af
def Fr (b : Nat) (A : Option Addr) : Prop := ∀ a, A = some a → b ≤ a.block
def rh (n : Int) (w : World) (e : Ending) (w' : World) : Prop := ∃ neg A l c, e = .returned (.agg #[.bool neg, .slice A l c]) ∧ eu w' neg A l c n ∧ Below w.heap.size w w' ∧ Fr w.heap.size A
def Cd (n : Int) (k : Nat) (w : World) (e : Ending) (w' : World) : Prop := ∃ A l c ds, e = .returned (.slice A l c) ∧ e8 w' A l c ds ∧ dM ds ∧ bQ ds = n ∧ l ≤ k ∧ Below w.heap.size w w' ∧ Fr w.heap.size A
def Lq (n : Int) (A : Option Addr) (c : Nat) (w : World) (e : Ending) (w' : World) : Prop := ∃ neg l, e = .returned (.agg #[.bool neg, .slice A l c]) ∧ eu w' neg A l c n ∧ Below w.heap.size w w'
theorem Fr.own {w : World} {base : Nat} {t : TypeId} {A : Option Addr} {n c : Nat} {xs : List Value} (h : w.ownsRow base t 1 (.slice A n c) n xs) : Fr base A := fun a e => by
 subst e;exact (h.lt a.block rfl).1
theorem Cy (w : World) : Calls ag 116 #[] w fun e w' => e = .returned (.int .i64 10000) ∧ w = w' := by
 go_enter Tryz.func116, Tryz.ntmps116
 go_wp2
 go_ret
 exact ⟨rfl, rfl⟩
theorem xu (A : Option Addr) (l c : Nat) (ds : List Int) (k : Nat) (w : World) (h : e8 w A l c ds) (hl : l ≤ 1000) (af : k ≤ 1000) :
  Calls ag 115 #[.slice A l c, .int .i64 k] w fun e w' => e = .returned (.int .i64 (ds.getD k 0)) ∧ w = w' := by
 obtain ⟨h1, h2, h3, aD⟩ := h
 by_cases bb : k < l
 ·obtain ⟨g, rfl, an, jQ⟩ := aD (by omega);have eP := jQ k bb;generalize ds.getD k 0 = d at *;clear aD jQ h1
  go_enter Tryz.func115, Tryz.ntmps115
  go_wp2
  go_ret
  exact ⟨rfl, rfl⟩
 ·have mq : Hid (ds.getD k 0 = 0) := by unfold Hid; simp [gF, lJ (show ds.length ≤ k by omega)]
  clear aD h1
  go_enter Tryz.func115, Tryz.ntmps115
  go_wp2
  go_ret
  rw [mq.out];exact ⟨rfl, rfl⟩
end Go.Proofs.YtbcecodakfejaaaGreat
namespace Go.Proofs.YtbcecodakfejaaaGreat
open Go.RowKit
def MO : Value → Nat
 | .slice _ k _ => k
 | _ => 0
theorem Kg {neg : Bool} {A : Option Addr} {l c k : Nat} {ds : List Int} {w w' : World} (h : e8 w A l c ds) (hd : dM ds) (af : k ≤ l) (hv : bQ (ds.take k) = bQ ds) (aN : 0 < k → ds.getD (k - 1) 0 ≠ 0)
  (ab : Below w.heap.size w w') {x : Bool} (aa : x = (neg && decide (0 < k))) : Lq (h6 neg (bQ ds)) A c w (.returned (.agg #[.bool x, .slice A k c])) w' := by
 have hl : (ds.take k).length = k := by rw [ei, h.1]; omega
 have aw : rc (ds.take k) := by
  intro hp;rw [hl] at hp ⊢;rw [gF, fJ (by omega), ← gF];exact aN hp
 have hs := aiy (neg := neg) hd hv aw;rw [hl] at hs;exact ⟨_, _, by rw [aa], ⟨_, (h.take af).call ab, hs⟩, ab⟩
theorem aiT {ds : List Int} {k l : Nat} (hl : ds.length = l) (af : k + 1 ≤ l) (hv : bQ (ds.take (k + 1)) = bQ ds) (aN : ds.getD k 0 = 0) : bQ (ds.take k) = bQ ds := by
 rw [KH (by omega), aN] at hv;unfold bQ at *;rw [xw] at hv;simpa using hv
theorem BA (neg : Bool) (A : Option Addr) (l c : Nat) (ds : List Int) (w : World) (h : e8 w A l c ds) (hd : dM ds) (hl : l ≤ 1000) :
  Calls ag 110 #[.agg #[.bool neg, .slice A l c]] w (Lq (h6 neg (bQ ds)) A c w) := by
 obtain ⟨h1, h2, h3, aD⟩ := id h
 have bb : ∀ k, k + 1 ≤ l → ∃ g, A = some ⟨g, 0, none⟩ ∧ g < w.heap.size ∧ w.cell? ⟨g, k, none⟩ = some (.int .i64 (ds.getD k 0)) := fun k af => by
  obtain ⟨g, e, an, aj⟩ := aD (by omega);exact ⟨g, e, an, aj k (by omega)⟩
 have H1 := Lib.hid h1;have F9 := Lib.hid bb;clear h1 bb aD
 go_enter Tryz.func110, Tryz.ntmps110
 go_wp2
 go_loop [3] (fun d => ∃ k : Nat, k ≤ l ∧ d = .slice A k c ∧ Hid (bQ (ds.take k) = bQ ds)) (fun d => MO d)
 case atStart => exact ⟨l, dI _, rfl, by unfold Hid; rw [h4 (by rw [H1.out]; omega)]⟩
 case round =>
  obtain ⟨k, af, rfl, hv⟩ := hrel;rcases k with _ | k
  ·go_wp2
   all_goals
    refine bodyPost_ret (v := .agg #[.bool false, .slice A 0 c]) (by simp only [results, Tryz.results110]; go_simp) rfl (Kg h hd af hv.out (fun h => absurd h (by omega)) ?_ (by simp));(repeat first | with_reducible exact Below.refl _ _ | with_reducible refine dX ?_ _)
  ·obtain ⟨g, rfl, an, aj⟩ := F9.out k af
   by_cases aN : ds.getD k 0 = 0
   ·have b8 : Hid (bQ (ds.take k) = bQ ds) := aiT H1.out af hv.out aN;rw [aN] at aj;clear aN
    go_wp2
    go_round
    case rel => exact ⟨k, by omega, by simp, b8⟩
    case measure => simp [MO]
   ·have uB := Lib.hid aN;have b7 : (ds.getD k 0 == 0) = false := by simpa using aN
    clear aN;generalize zK : ds.getD k 0 = d at aj b7;have ny := Lib.hid zK;clear zK
    go_wp2
    ·refine bodyPost_ret (v := .agg #[.bool true, .slice (some ⟨g, 0, none⟩) (k + 1) c]) (by simp only [results, Tryz.results110]; go_simp) rfl (Kg (neg := true) h hd af hv.out (fun _ => uB.out) ?_ (by simp));(repeat first | with_reducible exact Below.refl _ _ | with_reducible refine dX ?_ _)
    ·refine bodyPost_ret (v := .agg #[.bool false, .slice (some ⟨g, 0, none⟩) (k + 1) c]) (by simp only [results, Tryz.results110]; go_simp) rfl (Kg (neg := false) h hd af hv.out (fun _ => uB.out) ?_ (by simp));(repeat first | with_reducible exact Below.refl _ _ | with_reducible refine dX ?_ _)
theorem aiU (neg : Bool) (A : Option Addr) (l c : Nat) (ds : List Int) (w : World) (h : e8 w A l c ds) (hd : dM ds) (hl : l ≤ 1000) :
  Calls ag 110 #[.agg #[.bool neg, .slice A l c]] w fun e w' => ∃ x cm, e = .returned (.agg #[.bool x, .slice A cm c]) ∧ eu w' x A cm c (h6 neg (bQ ds)) ∧ cm ≤ l ∧ Below w.heap.size w w' :=
 (BA neg A l c ds w h hd hl).mono fun _ _ ⟨x, cm, h1, h2, h3⟩ => ⟨x, cm, h1, h2, h2.len (by
  have a := X1 hd;have b := xv hd;rw [h.1] at a;cases neg <;> simp only [h6, if_true, n3, if_false] <;> omega), h3⟩
end Go.Proofs.YtbcecodakfejaaaGreat
namespace Go.Proofs.YtbcecodakfejaaaGreat
open Go.RowKit
theorem Pr {a b : Int} (h : a < b) : bR a b = -1 := by unfold bR; rw [if_neg (by omega), if_pos h]
theorem Pq {a b : Int} (h : b < a) : bR a b = 1 := by unfold bR; rw [if_neg (by omega), if_neg (by omega)]
theorem abr {a b : Int} (h : a = b) : bR a b = 0 := by unfold bR; rw [if_pos h]
theorem FA (A B : Option Addr) (l c m d : Nat) (ds es : List Int) (w : World) (h : e8 w A l c ds) (k : e8 w B m d es) (hd : dM ds) (he : dM es) (hl : l ≤ 1000) (hm : m ≤ 1000) :
  Calls ag 112 #[.slice A l c, .slice B m d] w fun e w' => e = .returned (.int .i64 (bR (bQ ds) (bQ es))) ∧ w = w' := by
 have H1 := Lib.hid h.1;have dd := Lib.hid k.1;have lx := Lib.hid hd;have oy := Lib.hid he;have hs := Lib.hid h;have AK := Lib.hid k;clear hd he h k
 go_enter Tryz.func112, Tryz.ntmps112
 go_wp2
 all_goals
  go_loop [5] (fun i => ∃ k : Nat, i = .int .i64 ((k : Int) - 1) ∧ k ≤ 1000 ∧ Hid (hi ds k = hi es k)) (fun i => (intOf i + 1).toNat)
  case atStart => first
   | exact ⟨l, rfl, by omega, by unfold Hid; rw [sU ds (by rw [H1.out]; omega), sU es (by rw [dd.out]; omega)]⟩
   | exact ⟨m, rfl, by omega, by unfold Hid; rw [sU ds (by rw [H1.out]; omega), sU es (by rw [dd.out]; omega)]⟩
  case round =>
   obtain ⟨k, rfl, af, aR⟩ := hrel;rcases k with _ | k
   ·rw [show (((0 : Nat) : Int) - 1) = -1 from rfl]
    go_wp2
    go_ret
    exact ⟨u7 (abr aR.out).symm, rfl⟩
   ·rw [show (((k + 1 : Nat) : Int) - 1) = (k : Int) by omega];have g1 := lx.out.getD k;have g2 := oy.out.getD k;have aG := fun h => Tw k lx.out oy.out h aR.out;have aO := fun h => Tw k oy.out lx.out h aR.out.symm;have cl : ds.getD k 0 = es.getD k 0 → hi ds k = hi es k := fun h => by rw [nM ds k, nM es k, h, aR.out]
    have c1 := fun w h => xu A l c ds k w h hl (by omega);have c2 := fun w h => xu B m d es k w h hm (by omega);have k1 := Lib.hid aG;have yL := Lib.hid aO;have Us := Lib.hid cl;have aS := Lib.hid c1;have bD := Lib.hid c2;clear aG aO cl c1 c2;generalize ds.getD k 0 = x at *;generalize es.getD k 0 = y at *
    go_wp2_with (go_at_call 115; first | ((with_reducible refine (aS.out _ hs.out).mono ?_); rintro e w' ⟨rfl, rfl⟩) | ((with_reducible refine (bD.out _ AK.out).mono ?_); rintro e w' ⟨rfl, rfl⟩))
    ·go_ret
     exact ⟨u7 (Pr (k1.out (by assumption))).symm, rfl⟩
    ·go_ret
     exact ⟨u7 (Pq (yL.out (by assumption))).symm, rfl⟩
    ·go_round
     case rel => exact ⟨k, rfl, by omega, Us.out (by omega)⟩
     case measure => simp [intOf]
end Go.Proofs.YtbcecodakfejaaaGreat
namespace Go.Proofs.YtbcecodakfejaaaGreat
open Go.RowKit
theorem Az : (ag.info? 3).map (fun i => (i.zero, i.size, i.bytes)) = some (some (.int .i64 0), 1, 8) := by kernel_rfl
structure yV (w wr : World) (ds es : List Int) (l m : Nat) (v : Value) (c : Int) (k : Nat) (os : List Int) : Prop where
 hb : 0 ≤ c
 c1 : c ≤ 1
 len : os.length = k
 dg : dM os
 val : hc os (c + hi ds k + hi es k) = bQ ds + bQ es
 more : 0 < c → k ≤ l ∨ k ≤ m
 top : k ≤ l ∨ k ≤ m + 1 ∨ k ≤ l + 1
 own : wr.ownsRow w.heap.size 3 1 v k (os.map (Value.int .i64))
 below : Below w.heap.size w wr
theorem agn (w : World) (ds es : List Int) (l m : Nat) : yV w w ds es l m (.slice none 0 0) 0 0 [] :=
 ⟨by omega, by omega, rfl, dM.nil, by show (0 : Int) + _ + _ = _; rw [sV, sV]; omega, fun h => absurd h (by omega), .inl (dJ _), World.ownsRow_nil _ _ _ _, Below.refl _ _⟩
theorem agm {w wr w1 : World} {ds es os : List Int} {l m k : Nat} {v v' : Value} {c : Int} {o : Obj} (h : yV w wr ds es l m v c k os) (hl : ds.length = l) (hm : es.length = m) (hd : dM ds) (he : dM es)
  (jc : k < l ∨ k < m ∨ 0 < c) {s : Int} (hs : s = c + ds.getD k 0 + es.getD k 0)
  (cy : w1.ownsRow w.heap.size 3 1 v' (k + 1) (os.map (Value.int .i64) ++ [.int .i64 (s % 10000)])) (an : (wr.alloc o).grownBy w1 v.ownBlock) : yV w w1 ds es l m v' (s / 10000) (k + 1) (os ++ [s % 10000]) := by
 have g1 := hd.getD k;have g2 := he.getD k;have aA := h.hb; have h1 := h.c1; have aat := h.more;have e2 : l ≤ k → ds.getD k 0 = 0 := fun q => by simp [gF, lJ (show ds.length ≤ k by omega)]
 have z2 : m ≤ k → es.getD k 0 = 0 := fun q => by simp [gF, lJ (show es.length ≤ k by omega)]
 refine ⟨by omega, by omega, by rw [cO, h.len]; rfl, h.dg.snoc (by omega) (by omega), by rw [hs]; exact ago h.val, fun q => ?_, ?_, by rw [qR]; exact cy, ?_⟩
 ·by_cases q1 : k < l
  ·exact .inl (by omega)
  ·by_cases q2 : k < m
   ·exact .inr (by omega)
   ·have := e2 (by omega); have := z2 (by omega); omega
 ·rcases jc with q | q | q
  ·exact .inl (by omega)
  ·exact .inr (.inl (by omega))
  ·have := aat q; omega
 ·refine (h.below.alloc h.below.size o).grown an (by have := h.below.size; simp; omega) (fun j ae => (h.own.lt j ae).1)
theorem agl {w wr : World} {ds es os : List Int} {l m k : Nat} {v : Value} {c : Int} (h : yV w wr ds es l m v c k os) (hl : ds.length = l) (hm : es.length = m) (h1 : l ≤ k) (h2 : m ≤ k) (h3 : c ≤ 0) : Cd (bQ ds + bQ es) (max l m + 1) w (.returned v) wr := by
 obtain ⟨A, c', rfl, eN⟩ := e8.own h.own;have e : c = 0 := by have := h.hb; omega
 have hv := h.val;rw [e, sU ds (by omega), sU es (by omega)] at hv;exact ⟨A, k, c', os, rfl, eN, h.dg, hv, by have := h.top; omega, h.below, Fr.own h.own⟩
theorem ahr (A B : Option Addr) (l c m d : Nat) (ds es : List Int) (w : World) (h : e8 w A l c ds) (k : e8 w B m d es) (hd : dM ds) (he : dM es) (hl : l ≤ 900) (hm : m ≤ 900) :
  Calls ag 111 #[.slice A l c, .slice B m d] w (Cd (bQ ds + bQ es) (max l m + 1) w) := by
 obtain ⟨i0, nL, kM, nU, kN⟩ := info_parts Az;have H1 := Lib.hid h.1;have dd := Lib.hid k.1;have lx := Lib.hid hd;have oy := Lib.hid he;have hs := Lib.hid h;have AK := Lib.hid k;have p0 := Lib.hid nL;have ju := Lib.hid kM;have oe := Lib.hid nU;have oZ := Lib.hid kN;clear hd he h k nL kM nU kN
 go_enter Tryz.func111, Tryz.ntmps111
 go_wp2
 go_loopw [5, 6, 7] (fun v c i wr => ∃ (k : Nat) (dB : Int) (os : List Int), c = .int .i64 dB ∧ i = .int .i64 k ∧ yV w wr ds es l m v dB k os) (fun _ _ i _ => 2000 - (intOf i).toNat)
 case atStart => exact ⟨0, 0, [], rfl, rfl, agn w ds es l m⟩
 case round =>
  obtain ⟨k, dB, os, rfl, rfl, al⟩ := hrel;have fD := al.hb;have b1 := al.c1;have b2 := al.top;have ee := al.more;have mq := Lib.hid al;have aS := Lib.hid (fun w h => xu A l c ds k w h (by omega) (by omega));have bD := Lib.hid (fun w h => xu B m d es k w h (by omega) (by omega));have g1 := lx.out.getD k;have g2 := oy.out.getD k;have Dd := Lib.hid (hs.out.call al.below);have De := Lib.hid (AK.out.call al.below);clear al;have N := Lib.hid (fun (w1 : World) (v' : Value) (o : Obj) jc cy an => agm (w1 := w1) (v' := v') (o := o) mq.out H1.out dd.out lx.out oy.out jc rfl cy an);generalize ds.getD k 0 = x at *;generalize es.getD k 0 = y at *
  by_cases jc : k < l ∨ k < m ∨ 0 < dB
  ·have aaa := Lib.hid jc;have jt := Lib.hid mq.out.own;have q0 : 0 ≤ dB + x + y := by omega
   have bH := mq.out.below.size;have M := Lib.hid (fun w1 v' o => N.out w1 v' o aaa.out);clear N;have eb : (l < m ∧ k < m) ∨ (l < m ∧ m ≤ k ∧ 0 < dB) ∨ (m ≤ l ∧ k < l) ∨ (m ≤ l ∧ l ≤ k ∧ 0 < dB) := by omega
   rcases eb with ⟨t1, t2⟩ | ⟨t1, t2, t3⟩ | ⟨t1, t2⟩ | ⟨t1, t2, t3⟩
   all_goals
    go_wp2_with (first
     | (go_at_call 115; first | ((with_reducible refine (aS.out _ Dd.out).mono ?_); rintro e w' ⟨rfl, rfl⟩) | ((with_reducible refine (bD.out _ De.out).mono ?_); rintro e w' ⟨rfl, rfl⟩))
     | (go_at_call 116; (with_reducible refine (Cy _).mono ?_); rintro e w' ⟨rfl, rfl⟩)
     | (at_builtin; refine wpList_append_own _ rfl _ _ 32 rfl w.heap.size 3 i0 (.int .i64 0) 1 8 Tryz.underlying32 p0.out ju.out oe.out oZ.out rfl (by decide) _ _ _ rfl (jt.out.alloc _) ⟨wr.heap.size, 0, none⟩ 1 1 [.int .i64 ((dB + x + y) % 10000)] rfl rfl (cell_one_new _ _ _) (by simp [Value.oneCell']) (by simp only [maxLen]; omega) (by omega) (by simp; omega) ?_; intro v' w1 l6 l3 qx; clear qx; have R := Lib.hid (M.out w1 v' _ l6 l3); clear l6 l3))
    all_goals first
     | (exfalso; omega)
     | (refine ⟨⟨k + 1, _, _, rfl, by go_num, R.out⟩, ?_⟩; simp [intOf]; omega)
  ·clear N;have t3 : dB ≤ 0 := by omega
   have t4 : l ≤ k := by omega
   have t5 : m ≤ k := by omega
   rcases gK l m with aar | aar
   all_goals
    go_wp2
    all_goals first
     | (exfalso; omega)
     | (go_ret; exact agl mq.out H1.out dd.out t4 t5 t3)
end Go.Proofs.YtbcecodakfejaaaGreat
namespace Go.Proofs.YtbcecodakfejaaaGreat
open Go.RowKit
theorem SJ {P : Program} {f : FuncId} {args : Array Value} {w : World} {n : Nat} {v : Value}
  (h : Calls P f args (w.drewN n) fun e w' => e = .returned v ∧ w.drewN n = w') : Calls P f args (w.drewN n) fun e aje => e = .returned v ∧ ∃ m, aje = w.drewN m :=
 h.mono fun _ _ ⟨he, hm⟩ => ⟨he, n, hm.symm⟩
theorem e8.drewN {w : World} {A : Option Addr} {l c : Nat} {ds : List Int} (h : e8 w A l c ds) (n : Nat) : e8 (w.drewN n) A l c ds := h
theorem Mp {B : Nat} {a w : World} (h : Below B a w) (n : Nat) : Below B a (w.drewN n) := ⟨h.os, h.tape, h.output, h.size, h.block⟩
structure tL (w wr : World) (ds es : List Int) (l : Nat) (v : Value) (c : Int) (k : Nat) (os : List Int) : Prop where
 hb : 0 ≤ c
 c1 : c ≤ 1
 len : os.length = k
 dg : dM os
 val : hc os (hi ds k - hi es k - c) = bQ ds - bQ es
 top : k ≤ l
 own : wr.ownsRow w.heap.size 3 1 v k (os.map (Value.int .i64))
 below : Below w.heap.size w wr
theorem adj (w : World) (ds es : List Int) (l : Nat) : tL w w ds es l (.slice none 0 0) 0 0 [] :=
 ⟨by omega, by omega, rfl, dM.nil, by show hi ds 0 - hi es 0 - 0 = _; rw [sV, sV]; omega, dJ _, World.ownsRow_nil _ _ _ _, Below.refl _ _⟩
theorem adi {w wr w1 : World} {ds es os : List Int} {l k : Nat} {v v' : Value} {c : Int} {o : Obj} (h : tL w wr ds es l v c k os)
  (jc : k < l) {x c' : Int} (aA : 0 ≤ x) (h1 : x < 10000) (vR : 0 ≤ c') (iZ : c' ≤ 1) (hs : x - 10000 * c' = ds.getD k 0 - es.getD k 0 - c)
  (cy : w1.ownsRow w.heap.size 3 1 v' (k + 1) (os.map (Value.int .i64) ++ [.int .i64 x])) (an : (wr.alloc o).grownBy w1 v.ownBlock) : tL w w1 ds es l v' c' (k + 1) (os ++ [x]) := by
 refine ⟨vR, iZ, by rw [cO, h.len]; rfl, h.dg.snoc aA h1, adk h.val hs, by omega, by rw [qR]; exact cy, ?_⟩;exact (h.below.alloc h.below.size o).grown an (by have := h.below.size; simp; omega) (fun j ae => (h.own.lt j ae).1)
theorem adh {w wr : World} {ds es os : List Int} {l k : Nat} {v : Value} {c : Int} (h : tL w wr ds es l v c k os) (hl : ds.length = l) (he : dM es) (h1 : l ≤ k) (hle : bQ es ≤ bQ ds) : Cd (bQ ds - bQ es) l w (.returned v) wr := by
 obtain ⟨A, c', rfl, eN⟩ := e8.own h.own;have hv := h.val;have aB := h.top;obtain rfl : k = ds.length := by omega
 exact ⟨A, _, c', os, rfl, eN, h.dg, adg h.dg he h.hb hle hv, by omega, h.below, Fr.own h.own⟩
theorem tL.drewN {w wr : World} {ds es os : List Int} {l k : Nat} {v : Value} {c : Int} (h : tL w wr ds es l v c k os) (n : Nat) : tL w (wr.drewN n) ds es l v c k os :=
 ⟨h.hb, h.c1, h.len, h.dg, h.val, h.top, h.own, Mp h.below n⟩
theorem SZ (A B : Option Addr) (l c m d : Nat) (ds es : List Int) (w : World) (h : e8 w A l c ds) (k : e8 w B m d es) (hd : dM ds) (he : dM es) (hl : l ≤ 900) (hm : m ≤ 900) (hle : bQ es ≤ bQ ds) :
  Calls ag 113 #[.slice A l c, .slice B m d] w (Cd (bQ ds - bQ es) l w) := by
 obtain ⟨i0, nL, kM, nU, kN⟩ := info_parts Az;have H1 := Lib.hid h.1;have lx := Lib.hid hd;have oy := Lib.hid he;have hs := Lib.hid h;have AK := Lib.hid k;have p0 := Lib.hid nL;have ju := Lib.hid kM;have oe := Lib.hid nU;have oZ := Lib.hid kN;have F9 := Lib.hid hle;clear hd he h k nL kM nU kN hle
 go_enter Tryz.func113, Tryz.ntmps113
 go_wp2
 go_loopw [5, 6, 7] (fun v c i wr => ∃ (k : Nat) (dB : Int) (os : List Int), c = .int .i64 dB ∧ i = .int .i64 k ∧ tL w wr ds es l v dB k os) (fun _ _ i _ => l - (intOf i).toNat)
 case atStart => exact ⟨0, 0, [], rfl, rfl, adj w ds es l⟩
 case round =>
  obtain ⟨k, dB, os, rfl, rfl, al⟩ := hrel;have fD := al.hb;have b1 := al.c1;have b2 := al.top;have mq := Lib.hid al;have bD := Lib.hid (fun w h => xu B m d es k w h (by omega) (by omega));have g1 := lx.out.getD k;have g2 := oy.out.getD k;have De := Lib.hid (AK.out.call al.below);have Dd := hs.out.call al.below;have jt := Lib.hid al.own;have bH := al.below.size
  by_cases jc : k < l
  ·obtain ⟨b4, ck, hM, aD⟩ := Dd;obtain ⟨g, rfl, an, jQ⟩ := aD (by omega);have OD := jQ k jc;clear aD jQ al b4 ck hM;generalize vO : ds.getD k 0 = x at OD g1;generalize xG : es.getD k 0 = y at g2 bD
   replace vO := Lib.hid vO
   replace xG := Lib.hid xG
   have eW : (0 : Int) ≤ (k : Int) := by omega
   have ba : (k : Int) < (l : Int) := by omega
   have s1 : IntKind.i64.wrap (x - y) = x - y := IntWalk.i64_in _ (by omega);have s2 : IntKind.i64.wrap (x - y - dB) = x - y - dB := IntWalk.i64_in _ (by omega)
   go_wp2_with fail
   go_quiet ((go_at_call 115; exact SJ (bD.out _ (De.out.drewN _))))
   clear s1 s2 OD an;have q9 := mq.out.drewN nq;generalize wr.drewN nq = KZ at *;clear mq De jt bH bD;have jt := Lib.hid q9.own;have bH := q9.below.size;have N := Lib.hid (fun (w1 : World) (v' : Value) (o : Obj) (z c' : Int) aA h1 vR iZ hs cy an => adi (w1 := w1) (v' := v') (o := o) (x := z) (c' := c') q9 jc aA h1 vR iZ hs cy an);clear q9;rw [vO.out, xG.out] at N
   by_cases akG : x - y - dB < 0
   ·have M := Lib.hid (fun (w1 : World) (v' : Value) (o : Obj) cy an => N.out w1 v' o (x - y - dB + 10000) 1 (by omega) (by omega) (by omega) (by omega) (by omega) cy an);clear N
    go_wp2_with (first
     | (go_at_call 116; (with_reducible refine (Cy _).mono ?_); rintro e w' ⟨rfl, rfl⟩)
     | (at_builtin; refine wpList_append_own _ rfl _ _ 32 rfl w.heap.size 3 i0 (.int .i64 0) 1 8 Tryz.underlying32 p0.out ju.out oe.out oZ.out rfl (by decide) _ _ _ rfl (jt.out.alloc _) ⟨KZ.heap.size, 0, none⟩ 1 1 [.int .i64 (x - y - dB + 10000)] rfl rfl (cell_one_new _ _ _) (by simp [Value.oneCell']) (by simp only [maxLen]; omega) (by omega) (by simp; omega) ?_; intro v' w1 l6 l3 qx; clear qx; have R := Lib.hid (M.out w1 v' _ l6 l3); clear l6 l3))
    refine ⟨⟨k + 1, _, _, rfl, by go_num, R.out⟩, ?_⟩;simp [intOf]; omega
   ·have M := Lib.hid (fun (w1 : World) (v' : Value) (o : Obj) cy an => N.out w1 v' o (x - y - dB) 0 (by omega) (by omega) (by omega) (by omega) (by omega) cy an);clear N
    go_wp2_with (first
     | (go_at_call 116; (with_reducible refine (Cy _).mono ?_); rintro e w' ⟨rfl, rfl⟩)
     | (at_builtin; refine wpList_append_own _ rfl _ _ 32 rfl w.heap.size 3 i0 (.int .i64 0) 1 8 Tryz.underlying32 p0.out ju.out oe.out oZ.out rfl (by decide) _ _ _ rfl (jt.out.alloc _) ⟨KZ.heap.size, 0, none⟩ 1 1 [.int .i64 (x - y - dB)] rfl rfl (cell_one_new _ _ _) (by simp [Value.oneCell']) (by simp only [maxLen]; omega) (by omega) (by simp; omega) ?_; intro v' w1 l6 l3 qx; clear qx; have R := Lib.hid (M.out w1 v' _ l6 l3); clear l6 l3))
    refine ⟨⟨k + 1, _, _, rfl, by go_num, R.out⟩, ?_⟩;simp [intOf]; omega
  ·clear Dd al
   go_wp2
   go_ret
   exact adh mq.out H1.out oy.out (by omega) F9.out
end Go.Proofs.YtbcecodakfejaaaGreat
namespace Go.Proofs.YtbcecodakfejaaaGreat
open Go.RowKit
theorem eu.alloc {w : World} {neg : Bool} {A : Option Addr} {l c : Nat} {n : Int} (h : eu w neg A l c n) (o : Obj) : eu (w.alloc o) neg A l c n := h.call ((Below.refl _ _).alloc (dI _) o)
def gN (w : World) (b : Nat) : Prop := ∃ x u, c8 w b (.bool x) u
theorem gN.of {w : World} {b : Nat} {x : Bool} {u : Value} (h : c8 w b (.bool x) u) : gN w b := ⟨x, u, h⟩
theorem gN.call {w w1 : World} {b : Nat} (h : gN w b) (ab : Below w.heap.size w w1) : gN w1 b := by
 obtain ⟨x, u, k⟩ := h;exact ⟨x, u, k.call ab⟩
theorem gN.drew {w : World} {b : Nat} (h : gN w b) : gN w.drew b := by
 obtain ⟨x, u, k⟩ := h;exact ⟨x, u, k.drew⟩
theorem gN.new {w : World} {b : Nat} {x : Bool} {u : Value} {t : TypeId} (e : b = w.heap.size) : gN (w.alloc (.cells #[.bool x, u] t)) b := ⟨x, u, c8.new e⟩
theorem e8.set {w : World} {A : Option Addr} {l c : Nat} {ds : List Int} (h : e8 w A l c ds) {b : Nat} {x : Bool} (ab : w.cell? ⟨b, 0, none⟩ = some (.bool x)) (o : Nat) (v : Value) : e8 (w.setCell ⟨b, o, none⟩ v) A l c ds := by
 obtain ⟨h1, h2, h3, aD⟩ := h;refine ⟨h1, h2, h3, fun hp => ?_⟩;obtain ⟨g, e, an, aj⟩ := aD hp
 have b7 : g ≠ b := by
  rintro rfl;have := aj 0 hp;rw [ab] at this;cases this
 refine ⟨g, e, by simpa [World.setCell] using an, fun j ae => ?_⟩;rw [World.cell?_setCell_other _ _ _ _ (fun e => b7 (congrArg Addr.block e).symm)];exact aj j ae
theorem eu.put {w : World} {neg : Bool} {A : Option Addr} {l c : Nat} {n : Int} {b : Nat} {x : Bool} {u : Value} (h : eu w neg A l c n) (ab : gN w b) : eu ((w.setCell ⟨b, 0, none⟩ (.bool x)).setCell ⟨b, 1, none⟩ u) neg A l c n := by
 obtain ⟨ds, eN, hS⟩ := h;obtain ⟨y, v, ⟨ba, bo⟩, dU, hU⟩ := ab;refine ⟨ds, (eN.set ba _ _).set (x := x) ?_ _ _, hS⟩;rw [World.cell?_setCell_same _ _ _ ba]
theorem ahX (neg : Bool) (n : Int) : h6 (!neg) n = -h6 neg n := by cases neg <;> simp [h6]
theorem agQ (neg : Bool) (A : Option Addr) (l c : Nat) (n : Int) (w : World) (h : eu w neg A l c n) (hl : l ≤ 1000) :
  Calls ag 109 #[.agg #[.bool neg, .slice A l c]] w fun e w' => ∃ x cm, e = .returned (.agg #[.bool x, .slice A cm c]) ∧ eu w' x A cm c (-n) ∧ cm ≤ l ∧ Below w.heap.size w w' := by
 obtain ⟨ds, eN, hS⟩ := h;have hv : Hid (h6 (!neg) (bQ ds) = -n) := by unfold Hid; rw [ahX, hS.val]
 have hd := Lib.hid hS.dg;clear hS
 go_enter Tryz.func109, Tryz.ntmps109
 go_wp2_with (go_at_call 110; refine (aiU _ _ _ _ ds _ ((eN.alloc _).alloc _) hd.out hl).mono ?_; rintro e w1 ⟨b4, l1, rfl, h1, Ij, ab⟩; have xl := Below.cell ab (p := ⟨w.heap.size, 0, none⟩) (by (simp; omega)); have xy := Below.frozen ab (p := ⟨w.heap.size, 0, none⟩) (by (simp; omega)); have xm := Below.cell ab (p := ⟨w.heap.size, 1, none⟩) (by (simp; omega)); have xz := Below.frozen ab (p := ⟨w.heap.size, 1, none⟩) (by (simp; omega)); have zg := Below.cell ab (p := ⟨w.heap.size + 1, 0, none⟩) (by (simp; done)); have zp := Below.frozen ab (p := ⟨w.heap.size + 1, 0, none⟩) (by (simp; done)); have zh := Below.cell ab (p := ⟨w.heap.size + 1, 1, none⟩) (by (simp; done)); have zq := Below.frozen ab (p := ⟨w.heap.size + 1, 1, none⟩) (by (simp; done)); have oC := Below.size ab; (try simp at oC); have yc : ¬ w1.heap.size = w.heap.size := (by omega); have AW : ¬ w1.heap.size = w.heap.size + 1 := (by omega))
 rw [hv.out] at h1;refine bodyPost_ret (v := .agg #[.bool b4, .slice A l1 c]) (by simp only [results, Tryz.results109]; go_simp) rfl ⟨_, _, rfl, ?_, Ij, ?_⟩
 ·(repeat first | with_reducible assumption | with_reducible refine eu.put ?_ ?_ | focus ((with_reducible refine gN.new ?_); simp; done) | with_reducible refine gN.call ?_ ab)
 ·(repeat first | with_reducible exact Below.refl _ _ | with_reducible refine dX ?_ _ | focus ((with_reducible refine hO ?_ _ _ _ ?_); rotate_left; omega) | with_reducible refine e5 ?_ ab)
end Go.Proofs.YtbcecodakfejaaaGreat
namespace Go.Proofs.YtbcecodakfejaaaGreat
open Go.RowKit
theorem abt (a b : Int) : bR (-a) (-b) = bR b a := by
 unfold bR
 repeat' split
 all_goals omega
theorem Std.Q1 {ds : List Int} {n : Int} (h : Std false ds n) : 0 ≤ n := by rw [h.val]; exact xv h.dg
theorem Std.below {ds : List Int} {n : Int} (h : Std true ds n) : n < 0 := by have := h.pos (h.sign rfl); rw [h.val]; simp [h6]; omega
theorem agO (x y : Bool) (A B : Option Addr) (l c cm c' : Nat) (n m : Int) (w : World) (h : eu w x A l c n) (k : eu w y B cm c' m) (hl : l ≤ 1000) (e6 : cm ≤ 1000) :
  Calls ag 76 #[.agg #[.bool x, .slice A l c], .agg #[.bool y, .slice B cm c']] w (ll (.int .i64 (bR n m)) w) := by
 obtain ⟨ds, eN, hS⟩ := h;obtain ⟨es, fa, cH⟩ := k;have hd := Lib.hid hS.dg;have he := Lib.hid cH.dg;have aS := Lib.hid (fun w h1 h2 => FA A B l c cm c' ds es w h1 h2 hd.out he.out hl e6);have bD := Lib.hid (fun w h1 h2 => FA B A cm c' l c es ds w h1 h2 he.out hd.out e6 hl);have mn := Lib.hid eN;have k0 := Lib.hid fa;clear eN fa;cases x <;> cases y
 ·have hv : Hid (bR (bQ ds) (bQ es) = bR n m) := by unfold Hid; rw [hS.val, cH.val]; rfl
  clear hS cH
  go_enter Tryz.func76, Tryz.ntmps76
  go_wp2_with (go_at_call 112; refine (aS.out _ ((mn.out.alloc _).alloc _) ((k0.out.alloc _).alloc _)).mono ?_; rintro e w1 ⟨rfl, rfl⟩)
  go_ret
  exact ⟨u7 hv.out, by (repeat first | with_reducible exact Below.refl _ _ | with_reducible refine dX ?_ _)⟩
 ·have hv : Hid (bR n m = 1) := Pq (by have := hS.Q1; have := cH.below; omega);clear hS cH
  go_enter Tryz.func76, Tryz.ntmps76
  go_wp2
  go_ret
  exact ⟨u7 hv.out.symm, by (repeat first | with_reducible exact Below.refl _ _ | with_reducible refine dX ?_ _)⟩
 ·have hv : Hid (bR n m = -1) := Pr (by have := hS.below; have := cH.Q1; omega);clear hS cH
  go_enter Tryz.func76, Tryz.ntmps76
  go_wp2
  go_ret
  exact ⟨u7 hv.out.symm, by (repeat first | with_reducible exact Below.refl _ _ | with_reducible refine dX ?_ _)⟩
 ·have hv : Hid (bR (bQ es) (bQ ds) = bR n m) := by unfold Hid; rw [hS.val, cH.val]; simp only [Kw]; rw [abt]
  clear hS cH
  go_enter Tryz.func76, Tryz.ntmps76
  go_wp2_with (go_at_call 112; refine (bD.out _ ((k0.out.alloc _).alloc _) ((mn.out.alloc _).alloc _)).mono ?_; rintro e w1 ⟨rfl, rfl⟩)
  go_ret
  exact ⟨u7 hv.out, by (repeat first | with_reducible exact Below.refl _ _ | with_reducible refine dX ?_ _)⟩
end Go.Proofs.YtbcecodakfejaaaGreat
namespace Go.Proofs.YtbcecodakfejaaaGreat
open Go.RowKit
theorem I1 {a b : Int} : (bR a b ≥ 0) ↔ b ≤ a := by
 unfold bR
 repeat' split
 all_goals omega
theorem agM (x : Bool) (A B : Option Addr) (l c cm c' : Nat) (n m : Int) (w : World) (h : eu w x A l c n) (k : eu w x B cm c' m) (hl : l ≤ 900) (e6 : cm ≤ 900) :
  Calls ag 71 #[.agg #[.bool x, .slice A l c], .agg #[.bool x, .slice B cm c']] w (rh (n + m) w) := by
 obtain ⟨ds, eN, hS⟩ := h;obtain ⟨es, fa, cH⟩ := k;have hv : Hid (h6 x (bQ ds + bQ es) = n + m) := by unfold Hid; rw [hS.val, cH.val]; cases x <;> simp [h6]; omega
 have aS := Lib.hid (fun w h1 h2 => ahr A B l c cm c' ds es w h1 h2 hS.dg cH.dg hl e6);have mn := Lib.hid (((eN.alloc (.cells #[.bool x, .slice A l c] 85)).alloc (.cells #[.bool x, .slice B cm c'] 85)).alloc (.cells #[.bool false, .slice none 0 0] 85));have k0 := Lib.hid (((fa.alloc (.cells #[.bool x, .slice A l c] 85)).alloc (.cells #[.bool x, .slice B cm c'] 85)).alloc (.cells #[.bool false, .slice none 0 0] 85));clear eN fa hS cH;have cP : ¬ (w.heap.size + 1 + 1 = w.heap.size) := by omega
 go_enter Tryz.func71, Tryz.ntmps71
 go_wp2_with fail
 go_region_held3 (fun w' => w'.cell? ⟨w.heap.size, 0, none⟩ = some (.bool x) ∧ w'.cell? ⟨w.heap.size, 1, none⟩ = some (.slice A l c) ∧ w'.cell? ⟨w.heap.size + 1, 1, none⟩ = some (.slice B cm c')) (go_keep)
  (first
   | (go_at_call 111; ((with_reducible refine (aS.out _ (mn.out.call ((Below.refl _ _).drew)) (k0.out.call ((Below.refl _ _).drew))).mono ?_); rintro e w1 ⟨gZ, l1, c1, os, rfl, rI, zC, qs, Oo, dt, hF⟩; have MA := Below.cell dt (p := ⟨w.heap.size, 0, none⟩) (by (simp; omega)); have NF := Below.frozen dt (p := ⟨w.heap.size, 0, none⟩) (by (simp; omega)); have MB := Below.cell dt (p := ⟨w.heap.size, 1, none⟩) (by (simp; omega)); have NG := Below.frozen dt (p := ⟨w.heap.size, 1, none⟩) (by (simp; omega)); have MC := Below.cell dt (p := ⟨w.heap.size + 1, 0, none⟩) (by (simp; done)); have NH := Below.frozen dt (p := ⟨w.heap.size + 1, 0, none⟩) (by (simp; done)); have MD := Below.cell dt (p := ⟨w.heap.size + 1, 1, none⟩) (by (simp; done)); have NI := Below.frozen dt (p := ⟨w.heap.size + 1, 1, none⟩) (by (simp; done)); have ME := Below.cell dt (p := ⟨w.heap.size + 1 + 1, 0, none⟩) (by (simp; done)); have NJ := Below.frozen dt (p := ⟨w.heap.size + 1 + 1, 0, none⟩) (by (simp; done)); have MF := Below.cell dt (p := ⟨w.heap.size + 1 + 1, 1, none⟩) (by (simp; done)); have NK := Below.frozen dt (p := ⟨w.heap.size + 1 + 1, 1, none⟩) (by (simp; done)); have Au := Below.size dt; (try simp at Au); have QK : ¬ w1.heap.size = w.heap.size := (by omega); have QL : ¬ w1.heap.size = w.heap.size + 1 := (by omega); have QM : ¬ w1.heap.size = w.heap.size + 1 + 1 := (by omega); replace qs := Lib.hid qs))
   | (go_at_call 110; ((with_reducible refine (BA _ _ _ _ os _ rI zC (by omega)).mono ?_); rintro e w2 ⟨ck, l2, rfl, h2, di⟩; rw [qs.out, hv.out] at h2; have MG := Below.cell di (p := ⟨w.heap.size, 0, none⟩) (by (simp; omega)); have NL := Below.frozen di (p := ⟨w.heap.size, 0, none⟩) (by (simp; omega)); have MH := Below.cell di (p := ⟨w.heap.size, 1, none⟩) (by (simp; omega)); have NM := Below.frozen di (p := ⟨w.heap.size, 1, none⟩) (by (simp; omega)); have MI := Below.cell di (p := ⟨w.heap.size + 1, 0, none⟩) (by (simp; omega)); have NN := Below.frozen di (p := ⟨w.heap.size + 1, 0, none⟩) (by (simp; omega)); have MJ := Below.cell di (p := ⟨w.heap.size + 1, 1, none⟩) (by (simp; omega)); have NO := Below.frozen di (p := ⟨w.heap.size + 1, 1, none⟩) (by (simp; omega)); have MK := Below.cell di (p := ⟨w.heap.size + 1 + 1, 0, none⟩) (by (simp; omega)); have NP := Below.frozen di (p := ⟨w.heap.size + 1 + 1, 0, none⟩) (by (simp; omega)); have ML := Below.cell di (p := ⟨w.heap.size + 1 + 1, 1, none⟩) (by (simp; omega)); have NQ := Below.frozen di (p := ⟨w.heap.size + 1 + 1, 1, none⟩) (by (simp; omega)); have Av := Below.size di; (try simp at Av); have QN : ¬ w2.heap.size = w.heap.size := (by omega); have QO : ¬ w2.heap.size = w.heap.size + 1 := (by omega); have QP : ¬ w2.heap.size = w.heap.size + 1 + 1 := (by omega))))
 go_wp2_with fail
 refine bodyPost_ret (v := .agg #[.bool ck, .slice gZ l2 c1]) (by simp only [results, Tryz.results71]; go_simp) rfl ⟨_, _, _, _, rfl, ?_, ?_, fun a e => ht (by simp; omega) (hF a e)⟩
 ·(repeat first | with_reducible assumption | with_reducible refine eu.put ?_ ?_ | focus ((with_reducible refine gN.new ?_); simp; done) | with_reducible refine gN.drew ?_ | with_reducible refine gN.call ?_ di | with_reducible refine gN.call ?_ dt)
 ·(repeat first | with_reducible exact Below.refl _ _ | with_reducible refine dX ?_ _ | focus ((with_reducible refine hO ?_ _ _ _ ?_); rotate_left; omega) | with_reducible refine Below.drew ?_ | with_reducible refine e5 ?_ di | with_reducible refine e5 ?_ dt)
theorem agK (x y : Bool) (A B : Option Addr) (l c cm c' : Nat) (n m : Int) (w : World) (h : eu w x A l c n) (k : eu w y B cm c' m) (hl : l ≤ 900) (e6 : cm ≤ 900) (hH : (x == y) = false) (hle : m.natAbs ≤ n.natAbs) :
  Calls ag 71 #[.agg #[.bool x, .slice A l c], .agg #[.bool y, .slice B cm c']] w (rh (n + m) w) := by
 obtain ⟨ds, eN, hS⟩ := h;obtain ⟨es, fa, cH⟩ := k
 replace hle : bQ es ≤ bQ ds := by have := hS.abs; have := cH.abs; omega
 have hv : Hid (h6 x (bQ ds - bQ es) = n + m) := by unfold Hid; rw [hS.val, cH.val]; cases x <;> cases y <;> simp [h6] at hH ⊢ <;> omega
 have mm := Lib.hid (fun w h1 h2 => FA A B l c cm c' ds es w h1 h2 hS.dg cH.dg (by omega) (by omega));have aS := Lib.hid (fun w h1 h2 => SZ A B l c cm c' ds es w h1 h2 hS.dg cH.dg hl e6 (by omega));have mS := I1 (a := bQ ds) (b := bQ es);have mn := Lib.hid (((eN.alloc (.cells #[.bool x, .slice A l c] 85)).alloc (.cells #[.bool y, .slice B cm c'] 85)).alloc (.cells #[.bool false, .slice none 0 0] 85));have k0 := Lib.hid (((fa.alloc (.cells #[.bool x, .slice A l c] 85)).alloc (.cells #[.bool y, .slice B cm c'] 85)).alloc (.cells #[.bool false, .slice none 0 0] 85));have cP : ¬ (w.heap.size + 1 + 1 = w.heap.size) := by omega
 have jG : ¬ (w.heap.size + 1 = w.heap.size) := by omega
 have ju : 0 ≤ bR (bQ ds) (bQ es) := by omega
 clear eN fa hS cH mS hle;generalize bR (bQ ds) (bQ es) = abp at *
 go_enter Tryz.func71, Tryz.ntmps71
 go_wp2_with (go_at_call 112; ((with_reducible refine (mm.out _ mn.out k0.out).mono ?_); rintro e ajf ⟨rfl, rfl⟩))
 go_region_held3 (fun w' => w'.cell? ⟨w.heap.size, 0, none⟩ = some (.bool x) ∧ w'.cell? ⟨w.heap.size, 1, none⟩ = some (.slice A l c) ∧ w'.cell? ⟨w.heap.size + 1, 1, none⟩ = some (.slice B cm c')) (go_keep)
  (first
   | (go_at_call 113; ((with_reducible refine (aS.out _ (mn.out.call ((Below.refl _ _).drew)) (k0.out.call ((Below.refl _ _).drew))).mono ?_); rintro e w1 ⟨gZ, l1, c1, os, rfl, rI, zC, qs, Oo, dt, hF⟩; have MA := Below.cell dt (p := ⟨w.heap.size, 0, none⟩) (by (simp; omega)); have NF := Below.frozen dt (p := ⟨w.heap.size, 0, none⟩) (by (simp; omega)); have MB := Below.cell dt (p := ⟨w.heap.size, 1, none⟩) (by (simp; omega)); have NG := Below.frozen dt (p := ⟨w.heap.size, 1, none⟩) (by (simp; omega)); have MC := Below.cell dt (p := ⟨w.heap.size + 1, 0, none⟩) (by (simp; done)); have NH := Below.frozen dt (p := ⟨w.heap.size + 1, 0, none⟩) (by (simp; done)); have MD := Below.cell dt (p := ⟨w.heap.size + 1, 1, none⟩) (by (simp; done)); have NI := Below.frozen dt (p := ⟨w.heap.size + 1, 1, none⟩) (by (simp; done)); have ME := Below.cell dt (p := ⟨w.heap.size + 1 + 1, 0, none⟩) (by (simp; done)); have NJ := Below.frozen dt (p := ⟨w.heap.size + 1 + 1, 0, none⟩) (by (simp; done)); have MF := Below.cell dt (p := ⟨w.heap.size + 1 + 1, 1, none⟩) (by (simp; done)); have NK := Below.frozen dt (p := ⟨w.heap.size + 1 + 1, 1, none⟩) (by (simp; done)); have Au := Below.size dt; (try simp at Au); have QK : ¬ w1.heap.size = w.heap.size := (by omega); have QL : ¬ w1.heap.size = w.heap.size + 1 := (by omega); have QM : ¬ w1.heap.size = w.heap.size + 1 + 1 := (by omega); replace qs := Lib.hid qs))
   | (go_at_call 110; ((with_reducible refine (BA _ _ _ _ os _ rI zC (by omega)).mono ?_); rintro e w2 ⟨ck, l2, rfl, h2, di⟩; rw [qs.out, hv.out] at h2; have MG := Below.cell di (p := ⟨w.heap.size, 0, none⟩) (by (simp; omega)); have NL := Below.frozen di (p := ⟨w.heap.size, 0, none⟩) (by (simp; omega)); have MH := Below.cell di (p := ⟨w.heap.size, 1, none⟩) (by (simp; omega)); have NM := Below.frozen di (p := ⟨w.heap.size, 1, none⟩) (by (simp; omega)); have MI := Below.cell di (p := ⟨w.heap.size + 1, 0, none⟩) (by (simp; omega)); have NN := Below.frozen di (p := ⟨w.heap.size + 1, 0, none⟩) (by (simp; omega)); have MJ := Below.cell di (p := ⟨w.heap.size + 1, 1, none⟩) (by (simp; omega)); have NO := Below.frozen di (p := ⟨w.heap.size + 1, 1, none⟩) (by (simp; omega)); have MK := Below.cell di (p := ⟨w.heap.size + 1 + 1, 0, none⟩) (by (simp; omega)); have NP := Below.frozen di (p := ⟨w.heap.size + 1 + 1, 0, none⟩) (by (simp; omega)); have ML := Below.cell di (p := ⟨w.heap.size + 1 + 1, 1, none⟩) (by (simp; omega)); have NQ := Below.frozen di (p := ⟨w.heap.size + 1 + 1, 1, none⟩) (by (simp; omega)); have Av := Below.size di; (try simp at Av); have QN : ¬ w2.heap.size = w.heap.size := (by omega); have QO : ¬ w2.heap.size = w.heap.size + 1 := (by omega); have QP : ¬ w2.heap.size = w.heap.size + 1 + 1 := (by omega))))
 go_wp2_with fail
 refine bodyPost_ret (v := .agg #[.bool ck, .slice gZ l2 c1]) (by simp only [results, Tryz.results71]; go_simp) rfl ⟨_, _, _, _, rfl, ?_, ?_, fun a e => ht (by simp; omega) (hF a e)⟩
 ·(repeat first | with_reducible assumption | with_reducible refine eu.put ?_ ?_ | focus ((with_reducible refine gN.new ?_); simp; done) | with_reducible refine gN.drew ?_ | with_reducible refine gN.call ?_ di | with_reducible refine gN.call ?_ dt)
 ·(repeat first | with_reducible exact Below.refl _ _ | with_reducible refine dX ?_ _ | focus ((with_reducible refine hO ?_ _ _ _ ?_); rotate_left; omega) | with_reducible refine Below.drew ?_ | with_reducible refine e5 ?_ di | with_reducible refine e5 ?_ dt)
theorem agL (x y : Bool) (A B : Option Addr) (l c cm c' : Nat) (n m : Int) (w : World) (h : eu w x A l c n) (k : eu w y B cm c' m) (hl : l ≤ 900) (e6 : cm ≤ 900) (hH : (x == y) = false) (hle : n.natAbs < m.natAbs) :
  Calls ag 71 #[.agg #[.bool x, .slice A l c], .agg #[.bool y, .slice B cm c']] w (rh (n + m) w) := by
 obtain ⟨ds, eN, hS⟩ := h;obtain ⟨es, fa, cH⟩ := k
 replace hle : bQ ds < bQ es := by have := hS.abs; have := cH.abs; omega
 have hv : Hid (h6 y (bQ es - bQ ds) = n + m) := by unfold Hid; rw [hS.val, cH.val]; cases x <;> cases y <;> simp [h6] at hH ⊢ <;> omega
 have mm := Lib.hid (fun w h1 h2 => FA A B l c cm c' ds es w h1 h2 hS.dg cH.dg (by omega) (by omega));have aS := Lib.hid (fun w h1 h2 => SZ B A cm c' l c es ds w h2 h1 cH.dg hS.dg e6 hl (by omega));have mS := I1 (a := bQ ds) (b := bQ es);have mn := Lib.hid (((eN.alloc (.cells #[.bool x, .slice A l c] 85)).alloc (.cells #[.bool y, .slice B cm c'] 85)).alloc (.cells #[.bool false, .slice none 0 0] 85));have k0 := Lib.hid (((fa.alloc (.cells #[.bool x, .slice A l c] 85)).alloc (.cells #[.bool y, .slice B cm c'] 85)).alloc (.cells #[.bool false, .slice none 0 0] 85));have cP : ¬ (w.heap.size + 1 + 1 = w.heap.size) := by omega
 have jG : ¬ (w.heap.size + 1 = w.heap.size) := by omega
 have ju : bR (bQ ds) (bQ es) < 0 := by omega
 clear eN fa hS cH mS hle;generalize bR (bQ ds) (bQ es) = abp at *
 go_enter Tryz.func71, Tryz.ntmps71
 go_wp2_with (go_at_call 112; ((with_reducible refine (mm.out _ mn.out k0.out).mono ?_); rintro e ajf ⟨rfl, rfl⟩))
 go_region_held3 (fun w' => w'.cell? ⟨w.heap.size + 1, 0, none⟩ = some (.bool y) ∧ w'.cell? ⟨w.heap.size, 1, none⟩ = some (.slice A l c) ∧ w'.cell? ⟨w.heap.size + 1, 1, none⟩ = some (.slice B cm c')) (go_keep)
  (first
   | (go_at_call 113; ((with_reducible refine (aS.out _ (mn.out.call ((Below.refl _ _).drew)) (k0.out.call ((Below.refl _ _).drew))).mono ?_); rintro e w1 ⟨gZ, l1, c1, os, rfl, rI, zC, qs, Oo, dt, hF⟩; have MA := Below.cell dt (p := ⟨w.heap.size, 0, none⟩) (by (simp; omega)); have NF := Below.frozen dt (p := ⟨w.heap.size, 0, none⟩) (by (simp; omega)); have MB := Below.cell dt (p := ⟨w.heap.size, 1, none⟩) (by (simp; omega)); have NG := Below.frozen dt (p := ⟨w.heap.size, 1, none⟩) (by (simp; omega)); have MC := Below.cell dt (p := ⟨w.heap.size + 1, 0, none⟩) (by (simp; done)); have NH := Below.frozen dt (p := ⟨w.heap.size + 1, 0, none⟩) (by (simp; done)); have MD := Below.cell dt (p := ⟨w.heap.size + 1, 1, none⟩) (by (simp; done)); have NI := Below.frozen dt (p := ⟨w.heap.size + 1, 1, none⟩) (by (simp; done)); have ME := Below.cell dt (p := ⟨w.heap.size + 1 + 1, 0, none⟩) (by (simp; done)); have NJ := Below.frozen dt (p := ⟨w.heap.size + 1 + 1, 0, none⟩) (by (simp; done)); have MF := Below.cell dt (p := ⟨w.heap.size + 1 + 1, 1, none⟩) (by (simp; done)); have NK := Below.frozen dt (p := ⟨w.heap.size + 1 + 1, 1, none⟩) (by (simp; done)); have Au := Below.size dt; (try simp at Au); have QK : ¬ w1.heap.size = w.heap.size := (by omega); have QL : ¬ w1.heap.size = w.heap.size + 1 := (by omega); have QM : ¬ w1.heap.size = w.heap.size + 1 + 1 := (by omega); replace qs := Lib.hid qs))
   | (go_at_call 110; ((with_reducible refine (BA _ _ _ _ os _ rI zC (by omega)).mono ?_); rintro e w2 ⟨ck, l2, rfl, h2, di⟩; rw [qs.out, hv.out] at h2; have MG := Below.cell di (p := ⟨w.heap.size, 0, none⟩) (by (simp; omega)); have NL := Below.frozen di (p := ⟨w.heap.size, 0, none⟩) (by (simp; omega)); have MH := Below.cell di (p := ⟨w.heap.size, 1, none⟩) (by (simp; omega)); have NM := Below.frozen di (p := ⟨w.heap.size, 1, none⟩) (by (simp; omega)); have MI := Below.cell di (p := ⟨w.heap.size + 1, 0, none⟩) (by (simp; omega)); have NN := Below.frozen di (p := ⟨w.heap.size + 1, 0, none⟩) (by (simp; omega)); have MJ := Below.cell di (p := ⟨w.heap.size + 1, 1, none⟩) (by (simp; omega)); have NO := Below.frozen di (p := ⟨w.heap.size + 1, 1, none⟩) (by (simp; omega)); have MK := Below.cell di (p := ⟨w.heap.size + 1 + 1, 0, none⟩) (by (simp; omega)); have NP := Below.frozen di (p := ⟨w.heap.size + 1 + 1, 0, none⟩) (by (simp; omega)); have ML := Below.cell di (p := ⟨w.heap.size + 1 + 1, 1, none⟩) (by (simp; omega)); have NQ := Below.frozen di (p := ⟨w.heap.size + 1 + 1, 1, none⟩) (by (simp; omega)); have Av := Below.size di; (try simp at Av); have QN : ¬ w2.heap.size = w.heap.size := (by omega); have QO : ¬ w2.heap.size = w.heap.size + 1 := (by omega); have QP : ¬ w2.heap.size = w.heap.size + 1 + 1 := (by omega))))
 go_wp2_with fail
 refine bodyPost_ret (v := .agg #[.bool ck, .slice gZ l2 c1]) (by simp only [results, Tryz.results71]; go_simp) rfl ⟨_, _, _, _, rfl, ?_, ?_, fun a e => ht (by simp; omega) (hF a e)⟩
 ·(repeat first | with_reducible assumption | with_reducible refine eu.put ?_ ?_ | focus ((with_reducible refine gN.new ?_); simp; done) | with_reducible refine gN.drew ?_ | with_reducible refine gN.call ?_ di | with_reducible refine gN.call ?_ dt)
 ·(repeat first | with_reducible exact Below.refl _ _ | with_reducible refine dX ?_ _ | focus ((with_reducible refine hO ?_ _ _ _ ?_); rotate_left; omega) | with_reducible refine Below.drew ?_ | with_reducible refine e5 ?_ di | with_reducible refine e5 ?_ dt)
theorem SL (x y : Bool) (A B : Option Addr) (l c cm c' : Nat) (n m : Int) (w : World) (h : eu w x A l c n) (k : eu w y B cm c' m) (hl : l ≤ 900) (e6 : cm ≤ 900) :
  Calls ag 71 #[.agg #[.bool x, .slice A l c], .agg #[.bool y, .slice B cm c']] w (rh (n + m) w) := by
 by_cases e : x = y
 ·subst e;exact agM x A B l c cm c' n m w h k hl e6
 ·have hH : (x == y) = false := by simpa using e
  rcases gK n.natAbs m.natAbs with q | q
  ·exact agL x y A B l c cm c' n m w h k hl e6 hH q
  ·exact agK x y A B l c cm c' n m w h k hl e6 hH q
end Go.Proofs.YtbcecodakfejaaaGreat
namespace Go.Proofs.YtbcecodakfejaaaGreat
open Go.RowKit
theorem X4 {os : List Int} (h : dM os) {y : Int} (ai : 0 ≤ y) : (10000 : Int) ^ os.length * y ≤ hc os y := by
 induction os with
 | nil => simp [hc]
 | cons d ds b9 =>
  have h1 := h.head;have h2 := b9 h.tail;rw [jj, n5, hc, gq (10000 ^ ds.length) 10000, j5];omega
structure ss (w wr : World) (x : Bool) (N : Nat) (v : Value) (k : Nat) (os : List Int) (z : Nat) : Prop where
 fD : c8 wr w.heap.size (.bool false) (.slice none 0 0)
 b1 : c8 wr (w.heap.size + 1) (.bool x) v
 own : wr.ownsRow (w.heap.size + 2) 3 1 v k (os.map (Value.int .i64))
 len : os.length = k
 dg : dM os
 val : hc os z = N
 wC : z = 0 → rc os
 below : Below w.heap.size w wr
theorem ss.short {w wr : World} {x : Bool} {N : Nat} {v : Value} {k : Nat} {os : List Int} {z : Nat} (h : ss w wr x N v k os z) (eO : N < 100000000000000000000) (aN : 0 < z) : k < 5 := by
 rcases gK k 5 with q | q
 ·exact q
 ·exfalso;have h1 := X4 h.dg (y := z) (by omega);rw [h.val, h.len] at h1;have h2 : (10000 : Int) ^ 5 ≤ 10000 ^ k := Sg q;have h3 : (10000 : Int) ^ k * 1 ≤ 10000 ^ k * z := pO (by omega) (lf (Sh k));have aD : (10000 : Int) ^ 5 = 100000000000000000000 := by decide
  omega
theorem Rg {w wr w1 : World} {x : Bool} {N : Nat} {v v' : Value} {k : Nat} {os : List Int} {z : Nat} {o : Obj} (h : ss w wr x N v k os z) (aN : 0 < z)
  (cy : w1.ownsRow (w.heap.size + 2) 3 1 v' (k + 1) (os.map (Value.int .i64) ++ [.int .i64 ((z % 10000 : Nat) : Int)])) (an : (wr.alloc o).grownBy w1 v.ownBlock) :
  c8 w1 (w.heap.size + 1) (.bool x) v ∧ ss w (w1.setCell ⟨w.heap.size + 1, 1, none⟩ v') x N v' (k + 1) (os ++ [((z % 10000 : Nat) : Int)]) (z / 10000) := by
 have OC := h.fD.lt;have dt := h.b1.lt;have b7 : ∀ j, j < w.heap.size + 2 → some j ≠ v.ownBlock := fun j ae e => by have := h.own.lt j e.symm; omega
 have PW : ∀ (b : Nat) (u oQ : Value), b < w.heap.size + 2 → c8 wr b u oQ → c8 w1 b u oQ := fun b u oQ ab eM => by
  have bb := eM.lt;obtain ⟨⟨c1, c2⟩, f1, f2⟩ := eM;have kG := an.block b (by simp; omega) (b7 b ab);refine ⟨⟨?_, ?_⟩, ?_, ?_⟩
  ·rw [World.cell?_of_block (w := wr.alloc o) (a := ⟨b, 0, none⟩) kG, World.cell?_alloc_lt _ _ _ (by omega)]; exact c1
  ·rw [World.cell?_of_block (w := wr.alloc o) (a := ⟨b, 1, none⟩) kG, World.cell?_alloc_lt _ _ _ (by omega)]; exact c2
  ·rw [World.frozen?_of_block (w := wr.alloc o) (a := ⟨b, 0, none⟩) kG, World.frozen?_alloc_past _ _ _ (by omega)]; exact f1
  ·rw [World.frozen?_of_block (w := wr.alloc o) (a := ⟨b, 1, none⟩) kG, World.frozen?_alloc_past _ _ _ (by omega)]; exact f2
 have ba := PW _ _ _ (by omega) h.b1;refine ⟨ba, ⟨(PW _ _ _ (by omega) h.fD).set _ (by omega), ?_, ?_, by rw [cO, h.len]; rfl, h.dg.snoc (by omega) (by omega), ?_, fun q => ?_, ?_⟩⟩
 ·obtain ⟨⟨c1, c2⟩, f1, f2⟩ := ba;refine ⟨⟨?_, World.cell?_setCell_same _ _ _ c2⟩, ?_, ?_⟩
  ·rw [World.cell?_setCell_other _ _ _ _ (by simp)]; exact c1
  ·go_simp
  ·go_simp
 ·rw [qR]; exact ownsRow_setCell_below cy (by simp) _
 ·rw [xw, ← h.val]; congr 1; omega
 ·intro hp;rw [cO];simp;omega
 ·refine (((h.below.alloc h.below.size o).grown an (by have := h.below.size; simp; omega) (fun j ae => by have := (h.own.lt j ae).1; omega))).setCell (by simp) _
theorem aee {x : Bool} {N : Nat} {os : List Int} (hd : dM os) (hv : hc os 0 = N) (aw : rc os) {n : Int} (aa : n = h6 x N) (hs : x = true → 0 < N) : Std x os n := by
 refine ⟨hd, aw, fun q e => ?_, by rw [aa]; unfold bQ; rw [hv]⟩;have := hs q;rw [e] at hv;simp [hc] at hv;omega
theorem Rf {w wr : World} {x : Bool} {N : Nat} {v : Value} {k : Nat} {os : List Int} {z : Nat} (h : ss w wr x N v k os z) (aN : z = 0) {n : Int} (aa : n = h6 x N) (hs : x = true → 0 < N) :
  ∃ A c, v = .slice A k c ∧ eu wr x A k c n ∧ Fr (w.heap.size + 2) A := by
 obtain ⟨A, c, rfl, eN⟩ := e8.own h.own;have hF := Fr.own h.own;have hv := h.val;have aw := h.wC aN;rw [aN] at hv;exact ⟨A, c, rfl, ⟨os, eN, aee h.dg hv aw aa hs⟩, hF⟩
end Go.Proofs.YtbcecodakfejaaaGreat
namespace Go.Proofs.YtbcecodakfejaaaGreat
open Go.RowKit
theorem Rh (w : World) (x : Bool) (n : Nat) : ss w ((w.alloc (.cells #[.bool false, .slice none 0 0] 85)).alloc (.cells #[.bool x, .slice none 0 0] 85)) x n (.slice none 0 0) 0 [] n :=
 ⟨(c8.new rfl).alloc _, c8.new (by simp), World.ownsRow_nil _ _ _ _, rfl, dM.nil, rfl, fun _ => QX, by (repeat first | with_reducible exact Below.refl _ _ | with_reducible refine dX ?_ _)⟩
theorem aed (n : Nat) (w : World) (h : n < 9223372036854775808) : Calls ag 66 #[.int .i64 n] w (rh n w) := by
 obtain ⟨i0, nL, kM, nU, kN⟩ := info_parts Az;have p0 := Lib.hid nL;have ju := Lib.hid kM;have oe := Lib.hid nU;have oZ := Lib.hid kN;clear nL kM nU kN;have ST := Lib.hid (Rh w false n);have hd : decide ((n : Int) < 0) = false := cA (by omega)
 go_enter Tryz.func66, Tryz.ntmps66
 go_wp2
 go_loopw [0] (fun i wr => ∃ (z k : Nat) (v : Value) (os : List Int), i = .int .i64 z ∧ z ≤ n ∧ ss w wr false n v k os z) (fun i _ => (intOf i).toNat)
 case atStart => exact ⟨n, 0, _, [], rfl, dI _, ST.out⟩
 case round =>
  obtain ⟨z, k, v, os, rfl, abn, al⟩ := hrel;obtain ⟨⟨c1, c2⟩, f1, f2⟩ := id al.b1;obtain ⟨⟨jA, rv⟩, f3, f4⟩ := id al.fD;have jt := Lib.hid al.own;have mq := Lib.hid al;have bH := al.b1.lt
  by_cases aN : z = 0
  ·obtain ⟨A, c, rfl, eO, hF⟩ := Rf al aN (n := n) rfl (fun h => by cases h);have vk := Lib.hid al.below;have F6 := Lib.hid al.fD;subst aN;clear al
   go_wp2
   refine bodyPost_ret (v := .agg #[.bool false, .slice A k c]) (by simp only [results, Tryz.results66]; go_simp) rfl ⟨_, _, _, _, rfl, ?_, ?_, fun a e => ht (by omega) (hF a e)⟩
   ·exact eO.put (gN.of F6.out)
   ·exact hO (hO vk.out _ _ _ (by omega)) _ _ _ (by omega)
  ·have kM : 0 < z := by omega
   have aak := al.short (by omega) kM;have b7 : ((z : Int) != 0) = true := by simpa using aN
   have N := Lib.hid (fun (w1 : World) (v' : Value) (o : Obj) cy an => Rg (w1 := w1) (v' := v') (o := o) mq.out kM cy an);clear al aN
   go_wp2_with (at_builtin; refine wpList_append_own _ rfl _ _ 32 rfl (w.heap.size + 2) 3 i0 (.int .i64 0) 1 8 Tryz.underlying32 p0.out ju.out oe.out oZ.out rfl (by decide) _ _ _ rfl (jt.out.alloc _) ⟨wr.heap.size, 0, none⟩ 1 1 [.int .i64 ((z % 10000 : Nat) : Int)] rfl rfl (cell_one_new _ _ _) (by simp [Value.oneCell']) (by simp only [maxLen]; omega) (by omega) (by simp; omega) ?_; intro v' w1 l6 l3 qx; clear qx; have R := N.out w1 v' _ l6 l3; clear l6 l3 c1 c2 f1 f2 jA rv f3 f4; obtain ⟨⟨⟨c1, c2⟩, f1, f2⟩, R⟩ := R; obtain ⟨ea, c', rfl, xF⟩ := e8.own R.own; clear xF; replace R := Lib.hid R)
   refine ⟨⟨z / 10000, k + 1, _, _, by go_num, by omega, R.out⟩, ?_⟩;simp [intOf]; omega
theorem neg_tmod (y : Nat) : (-(y : Int)).tmod 10000 = -((y : Int) % 10000) := by rw [Int.neg_tmod, Int.tmod_eq_emod_of_nonneg (by omega)]
theorem neg_tdiv (y : Nat) : (-(y : Int)).tdiv 10000 = -((y : Int) / 10000) := by rw [Int.neg_tdiv, Int.tdiv_eq_ediv_of_nonneg (by omega)]
theorem aec (n : Nat) (w : World) (h : n ≤ 9223372036854775808) (aA : 0 < n) : Calls ag 66 #[.int .i64 (-(n : Int))] w (rh (-(n : Int)) w) := by
 obtain ⟨i0, nL, kM, nU, kN⟩ := info_parts Az;have p0 := Lib.hid nL;have ju := Lib.hid kM;have oe := Lib.hid nU;have oZ := Lib.hid kN;clear nL kM nU kN;have ST := Lib.hid (Rh w true n);have hd : decide (-(n : Int) < 0) = true := cd (by omega)
 go_enter Tryz.func66, Tryz.ntmps66
 go_wp2
 go_loopw [0] (fun i wr => ∃ (z k : Nat) (v : Value) (os : List Int), i = .int .i64 (-(z : Int)) ∧ z ≤ n ∧ ss w wr true n v k os z) (fun i _ => (-intOf i).toNat)
 case atStart => exact ⟨n, 0, _, [], rfl, dI _, ST.out⟩
 case round =>
  obtain ⟨z, k, v, os, rfl, abn, al⟩ := hrel;obtain ⟨⟨c1, c2⟩, f1, f2⟩ := id al.b1;obtain ⟨⟨jA, rv⟩, f3, f4⟩ := id al.fD;have jt := Lib.hid al.own;have mq := Lib.hid al;have bH := al.b1.lt
  by_cases aN : z = 0
  ·obtain ⟨A, c, rfl, eO, hF⟩ := Rf al aN (n := -(n : Int)) rfl (fun _ => aA);have vk := Lib.hid al.below;have F6 := Lib.hid al.fD;subst aN;clear al;rw [show (-(((0 : Nat)) : Int)) = 0 from rfl]
   go_wp2
   refine bodyPost_ret (v := .agg #[.bool true, .slice A k c]) (by simp only [results, Tryz.results66]; go_simp) rfl ⟨_, _, _, _, rfl, ?_, ?_, fun a e => ht (by omega) (hF a e)⟩
   ·exact eO.put (gN.of F6.out)
   ·exact hO (hO vk.out _ _ _ (by omega)) _ _ _ (by omega)
  ·have kM : 0 < z := by omega
   have aak := al.short (by omega) kM;have b7 : (-(z : Int) != 0) = true := by simpa using aN
   have N := Lib.hid (fun (w1 : World) (v' : Value) (o : Obj) cy an => Rg (w1 := w1) (v' := v') (o := o) mq.out kM cy an);have t1 := neg_tmod z;have t2 := neg_tdiv z;clear al aN
   by_cases hm : (z : Int) % 10000 = 0
   ·have OU : z % 10000 = 0 := by omega
    replace N : Hid (∀ (w1 : World) (v' : Value) (o : Obj), w1.ownsRow (w.heap.size + 2) 3 1 v' (k + 1) (os.map (Value.int .i64) ++ [.int .i64 0]) → (wr.alloc o).grownBy w1 v.ownBlock → c8 w1 (w.heap.size + 1) (.bool true) v ∧ ss w (w1.setCell ⟨w.heap.size + 1, 1, none⟩ v') true n v' (k + 1) (os ++ [0]) (z / 10000)) := by
     intro w1 v' o h1 h2;have := N.out w1 v' o;rw [OU] at this;exact this h1 h2
    rw [hm] at t1;rw [show (-(0 : Int)) = 0 from rfl] at t1;clear hm OU
    go_wp2_with (at_builtin; refine wpList_append_own _ rfl _ _ 32 rfl (w.heap.size + 2) 3 i0 (.int .i64 0) 1 8 Tryz.underlying32 p0.out ju.out oe.out oZ.out rfl (by decide) _ _ _ rfl (jt.out.alloc _) ⟨wr.heap.size, 0, none⟩ 1 1 [.int .i64 0] rfl rfl (cell_one_new _ _ _) (by simp [Value.oneCell']) (by simp only [maxLen]; omega) (by omega) (by simp; omega) ?_; intro v' w1 l6 l3 qx; clear qx; have R := N.out w1 v' _ l6 l3; clear l6 l3 c1 c2 f1 f2 jA rv f3 f4; obtain ⟨⟨⟨c1, c2⟩, f1, f2⟩, R⟩ := R; obtain ⟨ea, c', rfl, xF⟩ := e8.own R.own; clear xF; replace R := Lib.hid R)
    refine ⟨⟨z / 10000, k + 1, _, _, by go_num, by omega, R.out⟩, ?_⟩;simp [intOf]; omega
   ·have fV : (0 : Int) < (z : Int) % 10000 := by omega
    clear hm
    go_wp2_with (at_builtin; refine wpList_append_own _ rfl _ _ 32 rfl (w.heap.size + 2) 3 i0 (.int .i64 0) 1 8 Tryz.underlying32 p0.out ju.out oe.out oZ.out rfl (by decide) _ _ _ rfl (jt.out.alloc _) ⟨wr.heap.size, 0, none⟩ 1 1 [.int .i64 ((z % 10000 : Nat) : Int)] rfl rfl (cell_one_new _ _ _) (by simp [Value.oneCell']) (by simp only [maxLen]; omega) (by omega) (by simp; omega) ?_; intro v' w1 l6 l3 qx; clear qx; have R := N.out w1 v' _ l6 l3; clear l6 l3 c1 c2 f1 f2 jA rv f3 f4; obtain ⟨⟨⟨c1, c2⟩, f1, f2⟩, R⟩ := R; obtain ⟨ea, c', rfl, xF⟩ := e8.own R.own; clear xF; replace R := Lib.hid R)
    refine ⟨⟨z / 10000, k + 1, _, _, by go_num, by omega, R.out⟩, ?_⟩;simp [intOf]; omega
theorem SN (n : Int) (w : World) (aA : -9223372036854775808 ≤ n) (h1 : n < 9223372036854775808) : Calls ag 66 #[.int .i64 n] w (rh n w) := by
 rcases pQ n 0 with q | q
 ·obtain ⟨m, rfl⟩ : ∃ m : Nat, n = -(m : Int) := ⟨n.natAbs, by omega⟩;exact aec m w (by omega) (by omega)
 ·obtain ⟨m, rfl⟩ := mL q;exact aed m w (by omega)
end Go.Proofs.YtbcecodakfejaaaGreat
namespace Go.Proofs.YtbcecodakfejaaaGreat
open Go.RowKit
theorem Se (j : Nat) : (0 : Int) < 2 ^ j ∧ (2 : Int) ^ j < 10000 ^ (j + 1) := by
 induction j with
 | zero => decide
 | succ j b9 => rw [n5, n5 (10000 : Int) (j + 1)]; omega
theorem Sd (j : Nat) : (((2 : Int) ^ j).natAbs : Int) < 10000 ^ (j + 1) := by have := Se j; omega
theorem ags (j : Nat) : (2 : Int) ^ j + 2 ^ j = 2 ^ (j + 1) := by rw [n5]; omega
theorem agR (k : Nat) (w : World) (af : k ≤ 800) : Calls ag 108 #[.int .i64 k] w (rh (2 ^ k) w) := by
 go_enter Tryz.func108, Tryz.ntmps108
 go_wp2_with fail
 refine (SN 1 _ (by omega) (by omega)).mono ?_;rintro e w1 ⟨b4, gZ, l1, c1, rfl, h1, dt, Df⟩
 replace Df : Hid (Fr w.heap.size gZ) := fun a e => ht (by simp) (Df a e)
 have a8 : c8 w1 w.heap.size (.bool false) (.slice none 0 0) := (c8.new rfl).call dt;have e2 := Lib.hid dt.size;have W6 : Below w.heap.size w w1 := e5 (dX (Below.refl _ _) _) dt;clear dt
 go_wp2_with fail
 go_loopw [4] (fun i wr => ∃ (j : Nat) (x : Bool) (A : Option Addr) (l c : Nat), i = .int .i64 j ∧ j ≤ k ∧ c8 wr w.heap.size (.bool false) (.slice none 0 0) ∧ c8 wr w1.heap.size (.bool x) (.slice A l c) ∧ eu wr x A l c (2 ^ j) ∧ Below w.heap.size w wr ∧ Hid (Fr w.heap.size A)) (fun i _ => k - (intOf i).toNat)
 case atStart =>
  refine ⟨0, b4, gZ, l1, c1, rfl, dJ _, a8.alloc _, c8.new rfl, ?_, dX W6 _, Df⟩;exact h1.alloc _
 case round =>
  obtain ⟨j, x, A, l, c, rfl, ae, HG, Oh, eO, xJ, Oi⟩ := hrel;clear Df;have hl := eO.len (Sd j);obtain ⟨⟨p1, p2⟩, p3, p4⟩ := id Oh;obtain ⟨⟨q1, q2⟩, bB, cS⟩ := id HG;have bb : w.heap.size < w1.heap.size := by have := e2.out; simp at this; omega
  by_cases k7 : j < k
  ·go_wp2_with (go_at_call 71; ((with_reducible refine (SL _ _ _ _ _ _ _ _ _ _ _ eO eO (by omega) (by omega)).mono ?_); rintro e w2 ⟨ck, lg, l2, c2, rfl, h2, di, HI⟩; replace HI : Hid (Fr w.heap.size lg) := (fun a e => ht xJ.size (HI a e)); clear Oi; rw [ags] at h2; clear p1 p2 p3 p4 q1 q2 bB cS; have HH := Oh.call di; have Zb := HG.call di; obtain ⟨⟨p1, p2⟩, p3, p4⟩ := id HH))
   refine ⟨⟨j + 1, ck, lg, l2, c2, by go_num, by omega, (Zb.set _ (by omega)).set _ (by omega), c8.put (vm.of HH), h2.put (gN.of HH), ?_, HI⟩, ?_⟩
   ·exact hO (hO (e5 xJ di) _ _ _ (by omega)) _ _ _ (by omega)
   ·simp [intOf]; omega
  ·obtain rfl : j = k := by omega
   go_wp2
   refine bodyPost_ret (v := .agg #[.bool x, .slice A l c]) (by simp only [results, Tryz.results108]; go_simp) rfl ⟨_, _, _, _, rfl, ?_, ?_, Oi⟩
   ·exact eO.put (gN.of HG)
   ·exact hO (hO xJ _ _ _ (by omega)) _ _ _ (by omega)
end Go.Proofs.YtbcecodakfejaaaGreat
