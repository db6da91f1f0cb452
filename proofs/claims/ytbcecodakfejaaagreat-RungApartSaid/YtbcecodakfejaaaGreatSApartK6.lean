/-
  My own texts, without what this claim does not need. My own text.
-/
import Derived.WalkKit
import Derived.Deep.QuietTactic
import Derived.OwnWalk
import Derived.Laws.OwnMore
import Derived.Maps.AppendAt
import Derived.IntWalk
import Derived.Test.YtbcecodakfejaaaGreatSApartK5
set_option maxRecDepth 100000
set_option maxHeartbeats 64000000
set_option linter.unusedVariables false
set_option linter.unusedSimpArgs false
set_option linter.unusedSectionVars false
open Go.Proofs.Tryz renaming prog → ag
namespace Go.Proofs.YtbcecodakfejaaaGreat
open Go.RowKit
def cE (k : Nat) (cs : List AC) : Mem := bA bW k cs
theorem hj {k j : Nat} {cs ds : List AC} (h : cE k cs j = some ds) : j = k ∧ ds = cs := by
 unfold cE at h
 by_cases e : j = k
 ·subst e; rw [cf] at h; exact ⟨rfl, (lP h).symm⟩
 ·rw [b3 _ _ e] at h; cases h
theorem fu {k j : Nat} {r q : bz} (h : bw k r j = some q) : j = k ∧ q = r := by
 unfold bw at h
 by_cases e : j = k
 ·subst e; rw [cf] at h; exact ⟨rfl, (lP h).symm⟩
 ·rw [b3 _ _ e] at h; cases h
theorem u3 {α : Type} (f : Nat → Option α) (k : Nat) (x : α) : bJ (bA (fun _ => none) k x) f = bA f k x := by
 funext j
 by_cases e : j = k
 ·subst e; rw [cf]; exact hk (cf _ _ _)
 ·rw [b3 _ _ e]; exact hn (b3 _ _ e)
theorem Pb {α : Type} (f : Nat → Option α) : bJ (fun _ => none) f = f := by funext j; exact hn rfl
def xc (n : Nat) (args : List ah) (m : Mem) : az := ⟨n, fun t => args[t]?, m⟩
def sX (P : Program) (fn : Func) (m0 : Mem) (R0 : aG) (Post : ah → Mem → aG → Prop) (R : aG) (s : az) : Prop :=
 ∃ xs r aD aw, fn.results.toList.map (iy P s) = xs.map some ∧ (packed xs).aQ r ∧ Post r aD aw ∧ (∀ k cs, aD k = some cs → s.mem k = some cs) ∧ bt aw R ∧ (∀ j, r.owns j → ∃ cs, aD j = some cs) ∧ (∀ k cs x j, aD k = some cs → x ∈ cs → x.owns j → ∃ aq, aD j = some aq) ∧ (∀ k cs, m0 k = some cs → ∃ aq, aD k = some aq) ∧ ∀ i r, R0 i = some r → ∃ aT, aw i = some aT
def jx (P : Program) (fn : Func) (m0 : Mem) (R0 : aG) (Post : ah → Mem → aG → Prop) : Exit → aG → az → Prop
 | .normal, R, s | .ret, R, s => sX P fn m0 R0 Post R s
 | _, _, _ => False
section
variable {P : Program}
theorem de {f : FuncId} {fn : Func} {c : Code} {args : List ah} {m0 : Mem} {R0 : aG} {Post : ah → Mem → aG → Prop} (ap : P.funcs[f]? = some fn) (ab : fn.body = some c) (au : args.length ≤ fn.ntmps) (we : ∀ k cs, m0 k = some cs → fn.ntmps ≤ k)
  (h : e4 P c (jx P fn m0 R0 Post) R0 (xc fn.ntmps args m0)) : cY P f args m0 R0 Post := by
 refine ⟨fun U ad W vs cH cB cI => ?_⟩;have hl := cI.1;refine calls_of_wp ap ab ?_;have ok : (xc fn.ntmps args m0).cJ := ⟨fun t av j ax ae => cB av (c5 ax) j ae, fun k cs x j af aa ae => cH.fs k cs x j af aa ae⟩
 let bo : eP := ⟨W, fun b => b < W.heap.size ∧ ¬ ea ad m0 R0 b, fun _ h => h.1, fun k => match m0 k with | some _ => some (ad k) | none => none, []⟩
 have a8 : ∀ b, ea ad m0 R0 b → b < W.heap.size := by
  rintro b (⟨k, cs, af, rfl⟩ | ⟨i, r, hi, ao⟩)
  ·obtain ⟨vs, ty, h1, _⟩ := cH.dt k cs af;exact (jH.1 h1).1
  ·exact (cH.rows i r hi).1.lt ao
 have W4 : ∀ b, U b → ¬ ea ad m0 R0 b := by
  rintro b hu (⟨k, cs, af, rfl⟩ | ⟨i, r, hi, ao⟩)
  ·obtain ⟨_, _, _, _, h⟩ := cH.dt k cs af; exact h hu
  ·exact ((cH.rows i r hi).2.2 b ao).1 hu
 have FU : tM bo (xc fn.ntmps args m0) ad := fun k b af => by
  cases hm : m0 k with
  | none => simp only [bo, hm] at af; cases af
  | some cs => simp only [bo, hm, gP] at af; exact ⟨we k cs hm, af⟩
 have jv : ∀ b, U b → b < W.heap.size → (xc fn.ntmps args m0).free (fun b => U b ∨ W.heap.size ≤ b) ad b ∧ W.heap[b]? = W.heap[b]? := fun b hu _ => ⟨⟨.inl hu, fun k cs af e => W4 b hu (.inl ⟨k, cs, af, e⟩)⟩, rfl⟩
 have ar : eo bo (fun b => U b ∨ W.heap.size ≤ b ∨ ea ad m0 R0 b) R0 (xc fn.ntmps args m0) { tmps := vs.toArray ++ Array.replicate (fn.ntmps - vs.toArray.size) undef, defers := [] } W (fun b => U b ∨ W.heap.size ≤ b) ad := by
  refine ⟨fun b ab => .inr (.inl ab), fun b ab => ab.elim .inl fun h => .inr (.inl h), ?_, fun k cs af ap => ap.2 (.inl ⟨k, cs, af, rfl⟩), ⟨rfl, rfl, rfl, dl _, fun _ _ => rfl⟩, fun i r hi => ?_, cH.apart, fun i r g hi ao => ⟨fun ap => ap.2 (.inr ⟨i, r, hi, ao⟩), .inr (.inr (.inr ⟨i, r, hi, ao⟩))⟩, FU⟩
  ·refine ⟨rfl, by simp [xc]; omega, fun t av ax => ?_, fun k cs af => ?_, cH.inj, jO.refl _, fun b ab => .inr ab, wa _ _ _⟩
   ·have B0 : t < vs.length := by rw [← hl]; exact (bF.1 ax).1
    refine ⟨vs[t], by simp [Array.getElem?_append, B0], ?_⟩;exact (cI.2 t av _ ax (bQ B0)).map jv fun _ _ => rfl
   ·obtain ⟨us, ty, h1, h2, h3⟩ := cH.dt k cs af;exact ⟨us, ty, h1, h2.map jv fun _ _ _ _ => rfl, fun ap => ap.2 k cs af rfl⟩
  ·obtain ⟨k7, aj, ao⟩ := cH.rows i r hi;refine ⟨k7.kept aj (fun _ _ => rfl) (dl _) jv, aj, fun g q => ⟨?_, fun k cs af => (ao g q).2 k cs af⟩⟩;rintro (hu | hu)
   ·exact (ao g q).1 hu
   ·have := a8 g (.inr ⟨i, r, hi, q⟩); omega
 refine wp_mono (h ok bo _ _ W ⟨_, ad, ar⟩).top ?_;rintro e a' w' ⟨fo, s', du, ⟨dH, aY, cg⟩, ak⟩
 have fin : sX P fn m0 R0 Post fo s' → a'.defers = [] ∧ ∃ v, (results fn a'.tmps).run P w' = .ok v w' ∧ ∃ v' r aD aw aY cq, Ending.returned v = .returned v' ∧ Post r aD aw ∧ eS cq aY w' aD aw ∧ cR cq aY w' r v' ∧ (∀ j, r.owns j → ∃ cs, aD j = some cs) ∧
   (∀ k cs, m0 k = some cs → aY k = ad k ∧ ∃ aq, aD k = some aq) ∧ (∀ i r, R0 i = some r → ∃ aT, aw i = some aT) ∧
   (∀ b, cq b → U b ∨ W.heap.size ≤ b ∨ ea ad m0 R0 b) ∧ (∀ b, ea aY aD aw b → ea ad m0 R0 b ∨ W.heap.size ≤ b) ∧ jO (Gt ad W m0 R0) w' := by
  rintro ⟨xs, r, aD, aw, h1, h2, h3, aE, cZ, ff, js, pg, iJ⟩;obtain ⟨v, q1, q2⟩ := Qx cg.rel h1;refine ⟨cg.rel.pC, v, q1, v, r, aD, aw, aY, s'.free dH aY, rfl, h3, cg.part aE cZ js, h2 _ _ _ _ q2, ff, fun k cs af => ⟨(cg.jS k (ad k) (by simp [bo, af])).2, pg k cs af⟩, iJ, fun b ab => cg.sub b ab.1, ?_, ⟨cg.below.os, cg.below.tape, cg.below.output, cg.below.size, fun b ab => cg.below.block b ab⟩⟩;rintro b (⟨k, cs, af, rfl⟩ | ⟨i, q, hi, ao⟩)
  ·have Gq := cg.ov k cs (aE k cs af);rcases hM (aY k) W.heap.size with mM | mM
   ·exact .inl (Classical.byContradiction fun au => Gq ⟨mM, au⟩)
   ·exact .inr mM
  ·have Gq := (cg.hot i q b (cZ i q hi) ao).1;rcases hM b W.heap.size with mM | mM
   ·exact .inl (Classical.byContradiction fun au => Gq ⟨mM, au⟩)
   ·exact .inr mM
 cases e with
 | normal => exact fin ak
 | ret => exact fin ak
 | _ => exact ak.elim
end
def AC.aW (bx : Nat → Nat) : AC → AC
 | .own k o => .own (bx k) o
 | .c v => .c v
 | .p R => .p R
def br.aW (bx : Nat → Nat) : br → br
 | .one x => .one (x.aW bx)
 | .agg xs => .agg (xs.map (AC.aW bx))
def ah.aW (bx : Nat → Nat) : ah → ah
 | .w x => .w (x.aW bx)
 | .cj xs => .cj (xs.map (br.aW bx))
def Mem.aW (bx : Nat → Nat) (m : Mem) : Mem := fun j => (m (bx j)).map fun cs => cs.map (AC.aW bx)
def aG.aW (bS : Nat → Nat) (R : aG) : aG := fun j => R (bS j)
section
variable {P : Program} {U : Nat → Prop} {ad : Nat → Nat} {W : World} {bx bS ib : Nat → Nat}
theorem gd.aW {x : AC} {v : Value} : gd U ad W (x.aW bx) v ↔ gd U (fun k => ad (bx k)) W x v := by cases x <;> exact Iff.rfl
theorem bH.aW {xs : List AC} {vs : List Value} : bH U ad W (xs.map (AC.aW bx)) vs ↔ bH U (fun k => ad (bx k)) W xs vs := by
 constructor
 ·rintro ⟨h1, h2⟩;refine ⟨by simpa using h1, fun i x v aa hv => gd.aW.1 (h2 i (x.aW bx) v (by rw [ef, aa]; rfl) hv)⟩
 ·rintro ⟨h1, h2⟩;refine ⟨by simpa using h1, fun i x v aa hv => ?_⟩;rw [ef] at aa;cases ai : xs[i]? with
  | none => rw [ai] at aa; cases aa
  | some y => rw [ai] at aa; cases aa; exact gd.aW.2 (h2 i y v ai hv)
theorem fE.aW {x : br} {v : Value} : fE U ad W (x.aW bx) v ↔ fE U (fun k => ad (bx k)) W x v := by
 cases x with
 | one x => exact gd.aW
 | agg xs =>
  constructor
  ·rintro ⟨vs, e, h⟩; exact ⟨vs, e, bH.aW.1 h⟩
  ·rintro ⟨vs, e, h⟩; exact ⟨vs, e, bH.aW.2 h⟩
theorem cR.aW {x : ah} {v : Value} : cR U ad W (x.aW bx) v ↔ cR U (fun k => ad (bx k)) W x v := by
 cases x with
 | w x => exact fE.aW
 | cj xs =>
  constructor
  ·rintro ⟨vs, e, hl, h⟩;exact ⟨vs, e, by simpa using hl, fun i x v aa hv => fE.aW.1 (h i (x.aW bx) v (by rw [ef, aa]; rfl) hv)⟩
  ·rintro ⟨vs, e, hl, h⟩;refine ⟨vs, e, by simpa using hl, fun i x v aa hv => ?_⟩;rw [ef] at aa;cases ai : xs[i]? with
   | none => rw [ai] at aa; cases aa
   | some y => rw [ai] at aa; cases aa; exact fE.aW.2 (h i y v ai hv)
theorem AC.Df {x : AC} {j : Nat} (h : (x.aW bx).owns j) : ∃ i, x.owns i ∧ j = bx i := by
 cases x with
 | own k o => exact ⟨k, rfl, h⟩
 | c v => cases h
 | p R => cases h
theorem AC.CX {x : AC} {j : Nat} (h : x.owns j) : (x.aW bx).owns (bx j) := by
 cases x with
 | own k o => cases h; rfl
 | c v => cases h
 | p R => cases h
theorem br.KE (x : br) : (x.aW bx).cells = x.cells.map (AC.aW bx) := by cases x <;> rfl
theorem ah.Df {x : ah} {j : Nat} (h : (x.aW bx).owns j) : ∃ i, x.owns i ∧ j = bx i := by
 have key : ∀ y : br, (y.aW bx).owns j → ∃ i, y.owns i ∧ j = bx i := by
  rintro y ⟨z, aI, ae⟩;rw [br.KE] at aI;obtain ⟨u, hu, rfl⟩ := h9.1 aI;obtain ⟨i, h1, h2⟩ := AC.Df ae;exact ⟨i, ⟨u, hu, h1⟩, h2⟩
 cases x with
 | w x => exact key x h
 | cj xs =>
  obtain ⟨y, ai, ae⟩ := h;obtain ⟨u, hu, rfl⟩ := h9.1 ai;obtain ⟨i, h1, h2⟩ := key u ae;exact ⟨i, ⟨u, hu, h1⟩, h2⟩
theorem ah.CX {x : ah} {j : Nat} (h : x.owns j) : (x.aW bx).owns (bx j) := by
 have key : ∀ y : br, y.owns j → (y.aW bx).owns (bx j) := by
  rintro y ⟨z, aI, ae⟩;exact ⟨z.aW bx, by rw [br.KE]; exact h9.2 ⟨z, aI, rfl⟩, AC.CX ae⟩
 cases x with
 | w x => exact key x h
 | cj xs =>
  obtain ⟨y, ai, ae⟩ := h;exact ⟨y.aW bx, h9.2 ⟨y, ai, rfl⟩, key y ae⟩
theorem Mem.qO {m : Mem} {j : Nat} {cs : List AC} (h : Mem.aW bx m j = some cs) : ∃ ds, m (bx j) = some ds ∧ cs = ds.map (AC.aW bx) := by
 unfold Mem.aW at h;cases hm : m (bx j) with
 | none => rw [hm] at h; cases h
 | some ds => rw [hm] at h; exact ⟨ds, rfl, (lP h).symm⟩
theorem Mem.qN (fh : ∀ j, bx (bx j) = j) {m : Mem} {k : Nat} {cs : List AC} (h : m k = some cs) : Mem.aW bx m (bx k) = some (cs.map (AC.aW bx)) := by
 unfold Mem.aW; rw [fh, h]; rfl
theorem ea.aW (fh : ∀ j, bx (bx j) = j) (fr : ∀ j, bS (ib j) = j) {m : Mem} {R : aG} {b : Nat} : ea ad (m.aW bx) (R.aW bS) b ↔ ea (fun k => ad (bx k)) m R b := by
 constructor
 ·rintro (⟨k, cs, af, e⟩ | ⟨i, r, hi, ao⟩)
  ·obtain ⟨ds, h1, _⟩ := Mem.qO af;exact .inl ⟨bx k, ds, h1, by simp only [fh]; exact e⟩
  ·exact .inr ⟨bS i, r, hi, ao⟩
 ·rintro (⟨k, cs, af, e⟩ | ⟨i, r, hi, ao⟩)
  ·exact .inl ⟨bx k, _, Mem.qN fh af, e⟩
  ·exact .inr ⟨ib i, r, by unfold aG.aW; rw [fr]; exact hi, ao⟩
theorem eS.aW (fh : ∀ j, bx (bx j) = j) (fr : ∀ j, bS (ib j) = j) (uN : ∀ j, ib (bS j) = j) {m : Mem} {R : aG} : eS U ad W (m.aW bx) (R.aW bS) ↔ eS U (fun k => ad (bx k)) W m R := by
 have Nd : ∀ {a b : Nat}, bx a = bx b → a = b := fun {a b} h => by rw [← fh a, h, fh]
 have YZ : ∀ {a b : Nat}, bS a = bS b → a = b := fun {a b} h => by rw [← uN a, h, uN]
 have Y0 : ∀ {a b : Nat}, ib a = ib b → a = b := fun {a b} h => by rw [← fr a, h, fr]
 constructor
 ·intro h;refine ⟨fun k cs af => ?_, fun k cs x j af aa ae => ?_, fun k k' cs aq af eD e => ?_, fun i r hi => ?_, fun i j r q hi ae fg g ao => h.apart (ib i) (ib j) r q (by unfold aG.aW; rw [fr]; exact hi) (by unfold aG.aW; rw [fr]; exact ae) (fun e => fg (Y0 e)) g ao⟩
  ·obtain ⟨vs, ty, h1, h2, h3⟩ := h.dt (bx k) _ (Mem.qN fh af);exact ⟨vs, ty, h1, bH.aW.1 h2, h3⟩
  ·obtain ⟨aq, h1⟩ := h.fs (bx k) _ (x.aW bx) (bx j) (Mem.qN fh af) (h9.2 ⟨x, aa, rfl⟩) (AC.CX ae);obtain ⟨ds, h2, _⟩ := Mem.qO h1;rw [fh] at h2;exact ⟨ds, h2⟩
  ·exact Nd (h.inj (bx k) (bx k') _ _ (Mem.qN fh af) (Mem.qN fh eD) e)
  ·obtain ⟨h1, h3, aE⟩ := h.rows (ib i) r (by unfold aG.aW; rw [fr]; exact hi);exact ⟨h1.kept h3 (fun _ _ => rfl) (dl _) (fun b ab _ => ⟨ab, rfl⟩), h3, fun g ao => ⟨(aE g ao).1, fun k cs af => (aE g ao).2 (bx k) _ (Mem.qN fh af)⟩⟩
 ·intro h;refine ⟨fun k cs af => ?_, fun k cs x j af aa ae => ?_, fun k k' cs aq af eD e => ?_, fun i r hi => ?_, fun i j r q hi ae fg g ao => h.apart (bS i) (bS j) r q hi ae (fun e => fg (YZ e)) g ao⟩
  ·obtain ⟨ds, aA, rfl⟩ := Mem.qO af;obtain ⟨vs, ty, h1, h2, h3⟩ := h.dt (bx k) ds aA;simp only [fh] at h1 h3;exact ⟨vs, ty, h1, bH.aW.2 h2, h3⟩
  ·obtain ⟨ds, aA, rfl⟩ := Mem.qO af;obtain ⟨y, ai, rfl⟩ := h9.1 aa;obtain ⟨i, h1, rfl⟩ := AC.Df ae;obtain ⟨aq, h2⟩ := h.fs (bx k) ds y i aA ai h1;exact ⟨_, Mem.qN fh h2⟩
  ·obtain ⟨ds, aA, _⟩ := Mem.qO af;obtain ⟨VC, yf, _⟩ := Mem.qO eD;exact Nd (h.inj (bx k) (bx k') _ _ aA yf (by simp only [fh]; exact e))
  ·obtain ⟨h1, h3, aE⟩ := h.rows (bS i) r hi;refine ⟨h1.kept h3 (fun _ _ => rfl) (dl _) (fun b ab _ => ⟨ab, rfl⟩), h3, fun g ao => ⟨(aE g ao).1, fun k cs af => ?_⟩⟩;obtain ⟨ds, aA, _⟩ := Mem.qO af;have := (aE g ao).2 (bx k) ds aA;simpa only [fh] using this
theorem cY.aW (fh : ∀ j, bx (bx j) = j) (fr : ∀ j, bS (ib j) = j) (uN : ∀ j, ib (bS j) = j) {f : FuncId} {args : List ah} {m0 : Mem} {R0 : aG} {Post : ah → Mem → aG → Prop} (h : cY P f args m0 R0 Post) :
  cY P f (args.map (ah.aW bx)) (m0.aW bx) (R0.aW bS) fun r aD aw => ∃ b9 m1 bg, Post b9 m1 bg ∧ r = b9.aW bx ∧ aD = Mem.aW bx m1 ∧ aw = aG.aW bS bg := by
 refine ⟨fun U ad W vs cH cB cI => ?_⟩;have YF : jR U (fun k => ad (bx k)) W args vs := ⟨by simpa using cI.1, fun i x v aa hv => cR.aW.1 (cI.2 i (x.aW bx) v (by rw [ef, aa]; rfl) hv)⟩;refine (h.call U (fun k => ad (bx k)) W vs ((eS.aW fh fr uN).1 cH) (fun x aa j ae => ?_) YF).mono ?_
 ·obtain ⟨cs, h1⟩ := cB (x.aW bx) (h9.2 ⟨x, aa, rfl⟩) (bx j) (ah.CX ae);obtain ⟨ds, h2, _⟩ := Mem.qO h1;rw [fh] at h2;exact ⟨ds, h2⟩
 ·rintro e bb ⟨v, r, aD, aw, aY, cq, rfl, h1, h2, h3, aE, cZ, ff, js, pg, iJ⟩;have aF : (fun k => (fun k => aY (bx k)) (bx k)) = aY := by funext k; simp only [fh]
  refine ⟨v, r.aW bx, aD.aW bx, aw.aW bS, fun k => aY (bx k), cq, rfl, ⟨r, aD, aw, h1, rfl, rfl, rfl⟩, (eS.aW fh fr uN).2 (by rw [aF]; exact h2), cR.aW.2 (by rw [aF]; exact h3), fun j ae => ?_, fun k cs af => ?_, fun i q hi => ?_, fun b ab => ?_, fun b ab => ?_, ⟨iJ.os, iJ.tape, iJ.output, iJ.size, fun b ab => iJ.block b ⟨ab.1, fun aR => ab.2 ((ea.aW fh fr).2 aR)⟩⟩⟩
  ·obtain ⟨i, q1, rfl⟩ := ah.Df ae;obtain ⟨cs, q2⟩ := aE i q1;exact ⟨_, Mem.qN fh q2⟩
  ·obtain ⟨ds, q0, _⟩ := Mem.qO af;obtain ⟨q1, aq, q2⟩ := cZ (bx k) ds q0;refine ⟨by show aY (bx k) = ad k; rw [q1, fh], ?_⟩;have := Mem.qN fh q2;rw [fh] at this;exact ⟨_, this⟩
  ·exact ff (bS i) q hi
  ·rcases js b ab with q | q | q
   ·exact .inl q
   ·exact .inr (.inl q)
   ·exact .inr (.inr ((ea.aW fh fr).2 q))
  ·have : ea (fun k => (fun k => aY (bx k)) (bx k)) aD aw b := (ea.aW fh fr).1 ab;rw [aF] at this;rcases pg b this with q | q
   ·exact .inl ((ea.aW fh fr).2 q)
   ·exact .inr q
end
def swp (a b j : Nat) : Nat := if j = a then b else if j = b then a else j
theorem mv (a b j : Nat) : swp a b (swp a b j) = j := by
 unfold swp
 by_cases h1 : j = a
 ·subst h1
  by_cases h2 : b = j
  ·simp [h2]
  ·simp [h2]
 ·by_cases h2 : j = b
  ·subst h2; simp [h1]
  ·simp [h1, h2]
theorem zX (a b : Nat) : swp a b a = b := by simp [swp]
theorem Re (a b : Nat) : swp a b b = a := by unfold swp; by_cases h : b = a <;> simp [h]
theorem Qt {bx : Nat → Nat} {x : AC} (h : x.aV = true) : x.aW bx = x := by cases x <;> first | rfl | cases h
theorem Qu {bx : Nat → Nat} {xs : List AC} (h : xs.all AC.aV = true) : xs.map (AC.aW bx) = xs := by
 rw [cb] at h
 conv => rhs; rw [← List.map_id xs]
 exact oI fun x aa => Qt (h x aa)
theorem tE {bx : Nat → Nat} {x : ah} (h : x.aV = true) : x.aW bx = x := by
 have key : ∀ y : br, y.aV = true → y.aW bx = y := fun y ai => by
  cases y with
  | one x => show br.one (x.aW bx) = _; rw [Qt ai]
  | agg xs => show br.agg (xs.map _) = _; rw [Qu ai]
 cases x with
 | w x => show ah.w (x.aW bx) = _; rw [key x h]
 | cj xs =>
  show ah.cj (xs.map _) = _;congr 1;have aJ : ∀ x ∈ xs, x.aV = true := cb.1 h
  conv => rhs; rw [← List.map_id xs]
  exact oI fun x aa => key x (aJ x aa)
theorem uT {k j : Nat} {cs : List AC} (h : cs.all AC.aV = true) : Mem.aW (swp k j) (cE k cs) = cE j cs := by
 funext i;unfold Mem.aW cE
 by_cases e : i = j
 ·subst e; rw [Re, cf, cf, gC, Qu h]
 ·rw [b3 _ _ e, b3 _ _ (fun aN => e (by rw [← mv k j i, aN, zX]))]; rfl
theorem zH {k j : Nat} {r : bz} : aG.aW (swp k j) (bw k r) = bw j r := by
 funext i;unfold aG.aW bw
 by_cases e : i = j
 ·subst e; rw [Re, cf, cf]
 ·rw [b3 _ _ e, b3 _ _ (fun aN => e (by rw [← mv k j i, aN, zX]))]; rfl
def pZ (P : Program) (f : FuncId) (args : List ah) (cs : List AC) (r : bz) (post : ah → List AC → bz → Prop) : Prop :=
 ∀ k i, cY P f (.w (.one (.own k 0)) :: args) (cE k cs) (bw i r) fun v aD aw => ∃ aq aT, aD = cE k aq ∧ aw = bw i aT ∧ post v aq aT
theorem tj {P : Program} {f : FuncId} {args : List ah} {cs : List AC} {r : bz} {post : ah → List AC → bz → Prop} (aH : args.all ah.aV = true) (aj : cs.all AC.aV = true) (hp : ∀ v aq aT, post v aq aT → v.aV = true ∧ aq.all AC.aV = true)
  (h : cY P f (.w (.one (.own 1000 0)) :: args) (cE 1000 cs) (bw 0 r) fun v aD aw => ∃ aq aT, aD = cE 1000 aq ∧ aw = bw 0 aT ∧ post v aq aT) : pZ P f args cs r post := by
 intro k i;have h1 := h.aW (bx := swp 1000 k) (bS := swp 0 i) (ib := swp 0 i) (mv _ _) (mv _ _) (mv _ _)
 have aF : (ah.w (.one (.own 1000 0)) :: args).map (ah.aW (swp 1000 k)) = .w (.one (.own k 0)) :: args := by
  have aN : args.map (ah.aW (swp 1000 k)) = args := by
   rw [cb] at aH
   conv => rhs; rw [← List.map_id args]
   exact oI fun x aa => tE (aH x aa)
  rw [kQ, aN];show ah.w (.one (.own (swp 1000 k 1000) 0)) :: args = _;rw [zX]
 rw [aF, uT aj, zH] at h1;refine ⟨fun U ad W vs cH cB cI => (h1.call U ad W vs cH cB cI).mono ?_⟩;rintro e bb ⟨v, b9, aD, aw, aY, cq, q0, ⟨cT, m2, fo, ⟨aq, aT, rfl, rfl, ak⟩, rfl, rfl, rfl⟩, q⟩;obtain ⟨c1, c2⟩ := hp _ _ _ ak;rw [uT c2, zH, tE c1] at q;exact ⟨v, cT, cE k aq, bw i aT, aY, cq, q0, ⟨aq, aT, rfl, rfl, ak⟩, q⟩
section
variable {P : Program} {R : aG} {s : az} {ops : Array Oper} {dr : Option (List Nat)} {ty : Nat} {pos : String} {after : Array Edge} {guard : Option (Nat × Bool)} {K : aG → az → Prop} {rest : List Oper}
def kC (dst : Option Nat) (n : Nat) : Bool := match dst with
 | some d => Nat.blt d n
 | none => true
theorem K5 {dst : Option Nat} {n : Nat} (h : kC dst n = true) : ∀ d, dst = some d → d < n := fun d e => by subst e; simpa [kC, Nat.blt_eq] using h
theorem uL {dst : Option Nat} {f : FuncId} {g : Operand} {aL : Array TypeId} {l : List Operand} {args : List ah} {m0 : Mem} {R0 : aG} {Post : ah → Mem → aG → Prop} [E : Enters P f] (hw : want ops ⟨dst, .call ⟨.value g, l.toArray, aL⟩, ty, pos, after, guard⟩ s = some true) (hm : dL dr ⟨dst, .call ⟨.value g, l.toArray, aL⟩, ty, pos, after, guard⟩ = true)
  (ao : s.look g = some (aM (.func (.func f) #[] #[]))) (aH : l.map s.look = args.map some) (hp : cY P f args m0 R0 Post) (ay : ∀ x ∈ args, ∀ j, x.owns j → ∃ cs, m0 j = some cs) (pq : ∀ k cs, m0 k = some cs → s.mem k = some cs ∧ (oN dr k = true ∨ ∀ r aD aw, Post r aD aw → aD k = some cs)) (al : bt R0 R) (fs : ∀ k cs x j, m0 k = some cs → x ∈ cs → x.owns j → ∃ aq, m0 j = some aq) (hd : kC dst s.n = true)
  (h : ∀ r aD aw, Post r aD aw → (∀ k aq, aD k = some aq → (∃ cs, m0 k = some cs) ∨ (s.mem k = none ∧ k < s.n)) ∧ ct P ops dr K rest (bJ aw R) ((s.over aD).put dst r)) : ct P ops dr K (⟨dst, .call ⟨.value g, l.toArray, aL⟩, ty, pos, after, guard⟩ :: rest) R s := by
 refine ⟨true, hw, K5 hd, .inr (.inr (.inr (.inr (.inl ⟨rfl, hm, f, args, m0, R0, Post, ⟨⟨_, g, rfl, rfl, .inl ⟨[], ao, ?_, rfl⟩⟩, E.h⟩, hp, ay, pq, al, fs, fun r aD aw h1 _ _ _ => h r aD aw h1⟩))))⟩;simpa using aH
theorem MP (k i : Nat) {dst : Option Nat} {f : FuncId} {g : Operand} {aL : Array TypeId} {l : List Operand} {args : List ah} {cs : List AC} {r : bz} {post : ah → List AC → bz → Prop} [E : Enters P f] (hw : want ops ⟨dst, .call ⟨.value g, l.toArray, aL⟩, ty, pos, after, guard⟩ s = some true) (hm : dL dr ⟨dst, .call ⟨.value g, l.toArray, aL⟩, ty, pos, after, guard⟩ = true)
  (ao : s.look g = some (aM (.func (.func f) #[] #[]))) (aH : l.map s.look = (ah.w (.one (.own k 0)) :: args).map some) (hp : pZ P f args cs r post) (af : s.mem k = some cs) (hg : oN dr k = true ∨ ∀ v aq aT, post v aq aT → aq = cs) (hi : R i = some r) (aj : cs.all AC.aV = true) (dW : args.all ah.aV = true) (hd : kC dst s.n = true)
  (h : ∀ v aq aT, post v aq aT → ct P ops dr K rest (bA R i aT) ((s.dT k aq).put dst v)) : ct P ops dr K (⟨dst, .call ⟨.value g, l.toArray, aL⟩, ty, pos, after, guard⟩ :: rest) R s := by
 refine uL hw hm ao aH (hp k i) (fun x aa j ae => ?_) (fun k' aq aJ => ?_) (fun fi aT aJ => ?_) (fun k' aq x j aJ aa ae => ?_) hd ?_
 ·rcases fQ.1 aa with rfl | aa
  ·obtain ⟨y, ai, ae⟩ := ae;simp [br.cells] at ai;subst ai;cases ae;exact ⟨cs, by unfold cE; exact cf _ _ _⟩
  ·exact absurd ae (ah.dd (cb.1 dW x aa) j)
 ·obtain ⟨rfl, rfl⟩ := hj aJ;refine ⟨af, hg.imp id fun hu => ?_⟩;rintro v aD aw ⟨aq, aT, rfl, rfl, ak⟩;rw [hu v aq aT ak]; unfold cE; exact cf _ _ _
 ·obtain ⟨rfl, rfl⟩ := fu aJ; exact hi
 ·obtain ⟨rfl, rfl⟩ := hj aJ;exact absurd ae (AC.dd (cb.1 aj x aa) j)
 ·rintro v aD aw ⟨aq, aT, rfl, rfl, ak⟩;refine ⟨fun k' c aJ => ?_, ?_⟩
  ·obtain ⟨rfl, rfl⟩ := hj aJ;exact .inl ⟨cs, by unfold cE; exact cf _ _ _⟩
  ·have aF : bJ (bw i aT) R = bA R i aT := u3 R i aT
   have aN : s.over (cE k aq) = s.dT k aq := by
    show ({ s with mem := bJ (bA bW k aq) s.mem } : az) = { s with mem := bA s.mem k aq };rw [show bJ (bA bW k aq) s.mem = bA s.mem k aq from u3 s.mem k aq]
   rw [aF, aN];exact h v aq aT ak
theorem rG (k i : Nat) {dst : Option Nat} {f : FuncId} {g : Operand} {aL : Array TypeId} {l : List Operand} {args : List ah} {cs : List AC} {r : bz} {post : ah → List AC → bz → Prop} [E : Enters P f] (hw : want ops ⟨dst, .call ⟨.value g, l.toArray, aL⟩, ty, pos, after, guard⟩ s = some true) (hm : dL dr ⟨dst, .call ⟨.value g, l.toArray, aL⟩, ty, pos, after, guard⟩ = true)
  (ao : s.look g = some (aM (.func (.func f) #[] #[]))) (aH : l.map s.look = (ah.w (.one (.own k 0)) :: args).map some) (hp : pZ P f args cs r post) (af : s.mem k = some cs) (hg : oN dr k = true) (hi : R i = some r) (aj : cs.all AC.aV = true) (dW : args.all ah.aV = true) (hd : kC dst s.n = true)
  (h : ∀ v aq aT, post v aq aT → ct P ops dr K rest (bA R i aT) ((s.dT k aq).put dst v)) : ct P ops dr K (⟨dst, .call ⟨.value g, l.toArray, aL⟩, ty, pos, after, guard⟩ :: rest) R s :=
 MP k i hw hm ao aH hp af (.inl hg) hi aj dW hd h
theorem GB (k i : Nat) {dst : Option Nat} {f : FuncId} {g : Operand} {aL : Array TypeId} {l : List Operand} {args : List ah} {cs : List AC} {r : bz} {post : ah → List AC → bz → Prop} [E : Enters P f] (hw : want ops ⟨dst, .call ⟨.value g, l.toArray, aL⟩, ty, pos, after, guard⟩ s = some true) (hm : dL dr ⟨dst, .call ⟨.value g, l.toArray, aL⟩, ty, pos, after, guard⟩ = true)
  (ao : s.look g = some (aM (.func (.func f) #[] #[]))) (aH : l.map s.look = (ah.w (.one (.own k 0)) :: args).map some) (hp : pZ P f args cs r post) (af : s.mem k = some cs) (hg : ∀ v aq aT, post v aq aT → aq = cs) (hi : R i = some r) (aj : cs.all AC.aV = true) (dW : args.all ah.aV = true) (hd : kC dst s.n = true)
  (h : ∀ v aq aT, post v aq aT → ct P ops dr K rest (bA R i aT) ((s.dT k aq).put dst v)) : ct P ops dr K (⟨dst, .call ⟨.value g, l.toArray, aL⟩, ty, pos, after, guard⟩ :: rest) R s :=
 MP k i hw hm ao aH hp af (.inr hg) hi aj dW hd h
theorem Uc {x : Operand} {d k off : Nat} {K : az → Prop} (hw : want ops ⟨some d, .nilCheck x, ty, pos, after, guard⟩ s = some true) (aa : s.look x = some (.w (.one (.own k off)))) (hd : Nat.blt d s.n = true) (h : a7 P ops K rest (s.put (some d) (.w (.one (.own k off))))) : a7 P ops K (⟨some d, .nilCheck x, ty, pos, after, guard⟩ :: rest) s := by
 refine fF hw ⟨fun _ _ h => (by cases h), fun y ai => ?_, fun U ad W env he => ?_, fun j ae => ⟨x, by simp [Op.operands], _, aa, ae⟩⟩ hd h
 ·simp [Op.operands] at ai;subst ai;exact ⟨_, aa⟩
 ·have hv : env x = .pointer (some ⟨ad k, off, none⟩) := he x (by simp [Op.operands]) _ aa;exact ⟨_, by simp only [execOp, hv]; rfl, rfl⟩
end
section
variable {P : Program}
theorem ed {n : Nat} {cs : List AC} (h : Nat.ble n 1000 = true) : ∀ k aq, cE 1000 cs k = some aq → n ≤ k := fun k aq af => by
 obtain ⟨rfl, _⟩ := hj af;exact db h
theorem nu {n : Nat} : ∀ k aq, bW k = some aq → n ≤ k := fun k aq af => by cases af
theorem qn {fn : Func} {l : List ResultVar} {xs : List br} {R : aG} {s : az} {cs aq : List AC} {r aT : bz} {post : ah → List AC → bz → Prop} (al : fn.results = l.toArray) (h : l.map (iy P s) = xs.map some) (af : s.mem 1000 = some aq) (hi : R 0 = some aT) (aj : aq.all AC.aV = true) (aa : (packed xs).aV = true)
  (hp : post (packed xs) aq aT) : sX P fn (cE 1000 cs) (bw 0 r) (fun v aD aw => ∃ aq aT, aD = cE 1000 aq ∧ aw = bw 0 aT ∧ post v aq aT) R s := by
 refine ⟨xs, packed xs, cE 1000 aq, bw 0 aT, by rw [al]; exact h, .refl _, ⟨aq, aT, rfl, rfl, hp⟩, fun k c h => ?_, fun i q h => ?_, fun j ae => absurd ae (ah.dd aa j), fun k c x j h aa ae => ?_, fun k c h => ?_, fun i q h => ?_⟩
 ·obtain ⟨rfl, rfl⟩ := hj h; exact af
 ·obtain ⟨rfl, rfl⟩ := fu h; exact hi
 ·obtain ⟨rfl, rfl⟩ := hj h; exact absurd ae (AC.dd (cb.1 aj x aa) j)
 ·obtain ⟨rfl, rfl⟩ := hj h; exact ⟨aq, by unfold cE; exact cf _ _ _⟩
 ·obtain ⟨rfl, rfl⟩ := fu h; exact ⟨aT, by unfold bw; exact cf _ _ _⟩
def AC.wV (k : Nat) : AC → Bool
 | .own j _ => Nat.beq j k
 | _ => true
def ah.wV (k : Nat) : ah → Bool
 | .w x => x.cells.all (AC.wV k)
 | .cj xs => xs.all fun x => x.cells.all (AC.wV k)
theorem ah.abF {k j : Nat} {x : ah} (h : x.wV k = true) (ae : x.owns j) : j = k := by
 have key : ∀ y : br, y.cells.all (AC.wV k) = true → y.owns j → j = k := by
  rintro y ai ⟨z, aI, y0⟩;have := cb.1 ai z aI;cases z with
  | own i o => cases y0; exact gl this
  | c v => cases y0
  | p R => cases y0
 cases x with
 | w y => exact key y h ae
 | cj xs =>
  obtain ⟨y, ai, lE⟩ := ae;exact key y (cb.1 h y ai) lE
end
abbrev af3 : ah := aM (.slice none 0 0)
theorem OC (z : Nat) : af3.aQ (cz z 0 []) := fun U ad W v h => by
 obtain ⟨rfl, _⟩ := h;exact ⟨⟨none, 0, rfl, dl _, by simp, fun h => absurd h (Nat.lt_irrefl _)⟩, fun b ⟨c, a, q, au, _⟩ => absurd au (Nat.lt_irrefl _)⟩
section
variable {P : Program} {R : aG} {s : az} {ops : Array Oper} {dr : Option (List Nat)} {ty : Nat} {pos : String} {after : Array Edge} {guard : Option (Nat × Bool)} {K : aG → az → Prop} {rest : List Oper}
end
end Go.Proofs.YtbcecodakfejaaaGreat
namespace Go.Proofs.YtbcecodakfejaaaGreat
def gu : List Int → Int → Int
 | [], x => x
 | d :: ds, x => d + 10000 * gu ds x
def bI (ds : List Int) : Int := gu ds 0
def dv (ds : List Int) : Prop := ∀ d ∈ ds, 0 ≤ d ∧ d < 10000
def hi (ds : List Int) (k : Nat) : Int := bI (ds.drop k)
def pY (ds : List Int) : Prop := 0 < ds.length → ds.getD (ds.length - 1) 0 ≠ 0
theorem E3 (a b : List Int) (x : Int) : gu (a ++ b) x = gu a (gu b x) := by
 induction a with
 | nil => rfl
 | cons d ds bO => simp only [List.cons_append, gu, bO]
theorem vO (a : List Int) (d x : Int) : gu (a ++ [d]) x = gu a (d + 10000 * x) := E3 a [d] x
theorem dv.tail {d : Int} {ds : List Int} (h : dv (d :: ds)) : dv ds := fun x aa => h x (nL _ aa)
theorem dv.head {d : Int} {ds : List Int} (h : dv (d :: ds)) : 0 ≤ d ∧ d < 10000 := h d kr
theorem dv.nil : dv [] := fun d h => by cases h
theorem dv.snoc {ds : List Int} {d : Int} (h : dv ds) (aA : 0 ≤ d) (h1 : d < 10000) : dv (ds ++ [d]) := by
 intro x aa;rcases iU.1 aa with k | k
 ·exact h x k
 ·obtain rfl : x = d := by simpa using k
  exact ⟨aA, h1⟩
theorem dv.take {ds : List Int} (h : dv ds) (k : Nat) : dv (ds.take k) := fun x aa => h x (nN aa)
theorem dv.drop {ds : List Int} (h : dv ds) (k : Nat) : dv (ds.drop k) := fun x aa => h x (mm aa)
theorem dv.set {ds : List Int} (h : dv ds) (k : Nat) {d : Int} (aA : 0 ≤ d) (h1 : d < 10000) : dv (ds.set k d) := by
 intro x aa;rcases List.mem_or_eq_of_mem_set aa with k | k
 ·exact h x k
 ·exact k ▸ ⟨aA, h1⟩
theorem dv.getD {ds : List Int} (h : dv ds) (k : Nat) : 0 ≤ ds.getD k 0 ∧ ds.getD k 0 < 10000 := by
 by_cases e : k < ds.length
 ·rw [fZ, bQ e];exact h _ (List.getElem_mem e)
 ·rw [fZ, lQ (by omega)];exact ⟨by decide, by decide⟩
theorem VK {a : List Int} (h : dv a) {x : Int} (aa : x < 0) : gu a x < 0 := by
 induction a with
 | nil => exact aa
 | cons d ds bO => have := h.head; have := bO h.tail; simp only [gu]; omega
theorem VL {a : List Int} (h : dv a) {x : Int} (aa : 0 ≤ x) : 0 ≤ gu a x := by
 induction a with
 | nil => exact aa
 | cons d ds bO => have := h.head; have := bO h.tail; simp only [gu]; omega
theorem vN {a : List Int} (h : dv a) : 0 ≤ bI a := VL h (by omega)
theorem XP {a : List Int} (h : dv a) (k : Nat) : 0 ≤ hi a k := vN (h.drop k)
theorem Bd (d : Int) (ds : List Int) : bI (d :: ds) = d + 10000 * bI ds := rfl
theorem K6 : bI [] = 0 := rfl
theorem rB (a : List Int) : hi a 0 = bI a := rfl
theorem mL (a : List Int) (k : Nat) : hi a k = a.getD k 0 + 10000 * hi a (k + 1) := by
 unfold hi
 by_cases e : k < a.length
 ·rw [ml e, Bd, fZ, bQ e]; rfl
 ·rw [List.drop_eq_nil_of_le (by omega), List.drop_eq_nil_of_le (by omega), fZ, lQ (by omega)]; rfl
theorem rA (a : List Int) {k : Nat} (h : a.length ≤ k) : hi a k = 0 := by
 unfold hi; rw [List.drop_eq_nil_of_le h]; rfl
theorem VH (a : List Int) (k : Nat) : gu (a.take k) (hi a k) = bI a := by
 unfold hi bI; rw [← E3, jG]
theorem VG {ds : List Int} (h : dv ds) : bI ds < 10000 ^ ds.length := by
 induction ds with
 | nil => decide
 | cons d ds bO => have := h.head; have := bO h.tail; rw [Bd, jZ, nb]; omega
theorem P0 (k : Nat) : (0 : Int) < 10000 ^ k := hr (by decide)
theorem PZ {k j : Nat} (h : k ≤ j) : (10000 : Int) ^ k ≤ 10000 ^ j := by
 obtain ⟨d, rfl⟩ := Nat.exists_eq_add_of_le h;clear h
 induction d with
 | zero => exact nM _
 | succ d bO => have := P0 (k + d); rw [← Nat.add_assoc, nb]; omega
theorem aa6 {ds : List Int} (h : dv ds) (n : pY ds) (k : Nat) (e : ds.length = k + 1) : (10000 : Int) ^ k ≤ bI ds := by
 induction ds generalizing k with
 | nil => cases e
 | cons d ds bO =>
  rw [Bd];have aR := h.head;cases k with
  | zero =>
   obtain rfl : ds = [] := j3 (by simpa using e);have := n (by simp);simp at this;show (1 : Int) ≤ _;rw [K6];omega
  | succ k =>
   have hl : ds.length = k + 1 := by simpa using e
   have n' : pY ds := by
    intro hp;have := n (by simp);rw [jZ, hl] at this;rw [hl];simpa using this
   have := bO h.tail n' k hl;rw [nb];omega
theorem OD {ds : List Int} (h : dv ds) (n : pY ds) {k : Nat} (af : bI ds < 10000 ^ k) : ds.length ≤ k := by
 rcases hM k ds.length with a8 | kl
 ·exfalso;obtain ⟨j, ae⟩ : ∃ j, ds.length = j + 1 := ⟨ds.length - 1, by omega⟩;have h1 := aa6 h n j ae;have h2 : (10000 : Int) ^ k ≤ 10000 ^ j := PZ (by omega);omega
 ·exact kl
theorem aa9 {ds : List Int} (h : dv ds) (n : pY ds) (e : bI ds = 0) : ds = [] := by
 have := OD h n (k := 0) (by rw [e]; decide);exact j3 (by omega)
theorem aa7 : pY [] := fun h => by cases h
theorem Q9 (k : Nat) : ∀ {a b : List Int}, dv a → dv b → a.getD k 0 < b.getD k 0 → hi a (k + 1) = hi b (k + 1) → bI a < bI b := by
 induction k with
 | zero =>
  intro a b aH ab h e;have h1 := mL a 0; have h2 := mL b 0;rw [rB] at h1 h2;have := aH.getD 0; have := ab.getD 0;simp only [jj] at *;omega
 | succ k bO =>
  intro a b aH ab h e;have h1 := mL a 0; have h2 := mL b 0;rw [rB] at h1 h2;have t1 : hi a (0 + 1) = bI (a.drop 1) := rfl;have t2 : hi b (0 + 1) = bI (b.drop 1) := rfl
  have := bO (aH.drop 1) (ab.drop 1) (by
   rw [fZ, fZ, fC, fC, Nat.add_comm 1 k];rw [fZ, fZ] at h;exact h) (by
   unfold hi at *;rw [pL, pL, Nat.add_comm 1 (k + 1)];exact e)
  have := aH.getD 0; have := ab.getD 0;omega
theorem adv {out a b : List Int} {k : Nat} {c : Int} {T : Int} (h : gu out (c + hi a k + hi b k) = T) :
  gu (out ++ [(c + a.getD k 0 + b.getD k 0) % 10000]) ((c + a.getD k 0 + b.getD k 0) / 10000 + hi a (k + 1) + hi b (k + 1)) = T := by
 rw [vO, ← h];congr 1;have := mL a k; have := mL b k;omega
theorem aaA {out a b : List Int} {k : Nat} {c x : Int} {T : Int} (h : gu out (hi a k - hi b k - c) = T) {c' : Int} (aa : x - 10000 * c' = a.getD k 0 - b.getD k 0 - c) :
  gu (out ++ [x]) (hi a (k + 1) - hi b (k + 1) - c') = T := by
 rw [vO, ← h];congr 1;have := mL a k; have := mL b k;omega
theorem aaw {out a b : List Int} {c : Int} (ay : dv out) (ab : dv b) (aj : 0 ≤ c) (hle : bI b ≤ bI a) (h : gu out (hi a a.length - hi b a.length - c) = bI a - bI b) : bI out = bI a - bI b := by
 rw [rA a (dl _)] at h;have h1 := XP ab a.length
 by_cases e : hi b a.length + c = 0
 ·rw [show (0 - hi b a.length - c) = 0 by omega] at h;exact h
 ·have := VK ay (x := 0 - hi b a.length - c) (by omega);omega
end Go.Proofs.YtbcecodakfejaaaGreat
namespace Go.Proofs.YtbcecodakfejaaaGreat
theorem Wu {o : List Int} {k : Nat} (af : k < o.length) (d : Int) : (o.set k d).getD k 0 = d := by
 rw [fZ, List.getElem?_set_self af]; rfl
theorem getD_set_ne {o : List Int} {k j : Nat} (h : k ≠ j) (d : Int) : (o.set k d).getD j 0 = o.getD j 0 := by
 rw [fZ, List.getElem?_set_ne h, fZ]
theorem XQ {o : List Int} {k j : Nat} (h : k < j) (d : Int) : hi (o.set k d) j = hi o j := by
 unfold hi; rw [List.drop_set_of_lt h]
theorem Rk {o : List Int} {k j : Nat} (h : j ≤ k) (d : Int) : (o.set k d).take j = o.take j := by
 rw [List.take_set_of_le h]
theorem IA {o : List Int} {k : Nat} (h : k < o.length) : o.take (k + 1) = o.take k ++ [o.getD k 0] := by
 rw [nO h, fZ, bQ h]; rfl
def qC (o : List Int) (i k : Nat) : List Int := (o.drop i).take k
theorem aav {o : List Int} {i k : Nat} (h : i + k < o.length) : qC o i (k + 1) = qC o i k ++ [o.getD (i + k) 0] := by
 unfold qC;rw [IA (by rw [hN]; omega)];congr 2;rw [fZ, fC, fZ]
theorem aau {o : List Int} {i k : Nat} (d : Int) : qC (o.set (i + k) d) i k = qC o i k := by
 unfold qC;rw [List.drop_set, if_neg (by omega), Rk (by omega)]
theorem mid_zero (o : List Int) (i : Nat) : qC o i 0 = [] := rfl
theorem XO (o : List Int) (i k : Nat) : gu (qC o i k) (hi o (i + k)) = hi o i := by
 unfold qC hi bI;rw [← pL, ← E3, jG]
def so (o : List Int) (i k : Nat) (c x : Int) (b : List Int) (T : Int) : Prop := gu (qC o i k) (hi o (i + k) + c + x * hi b k) = T
theorem aaK (o : List Int) (i : Nat) (x : Int) (b : List Int) : so o i 0 0 x b (hi o i + x * bI b) := by
 unfold so;rw [mid_zero, rB];show hi o i + 0 + x * bI b = _;rw [Int.add_zero]
theorem aaL {o : List Int} {i k : Nat} {c x : Int} {b : List Int} {T : Int} (h : so o i k c x b T) (af : i + k < o.length) {s : Int} (hs : s = c + o.getD (i + k) 0 + x * b.getD k 0) :
  so (o.set (i + k) (s % 10000)) i (k + 1) (s / 10000) x b T := by
 unfold so at *;rw [aav (by rw [List.length_set]; exact af), aau, Wu af, vO, ← h, XQ (by omega)];congr 1;have h1 := mL o (i + k);have h2 := mL b k;have h3 : x * hi b k = x * b.getD k 0 + 10000 * (x * hi b (k + 1)) := by rw [h2, Int.mul_add, Int.mul_left_comm]
 rw [h3, ← Nat.add_assoc];generalize x * hi b (k + 1) = u at *;generalize x * b.getD k 0 = v at *;omega
theorem aaJ {o : List Int} {i k : Nat} {x : Int} {b : List Int} {T : Int} (h : so o i k 0 x b T) (af : b.length ≤ k) : hi o i = T := by
 unfold so at h;rw [rA b af, Int.mul_zero, Int.add_zero, Int.add_zero, XO] at h;exact h
def sq (o a b : List Int) (i : Nat) : Prop := gu (o.take i) (hi o i + hi a i * bI b) = bI a * bI b
theorem aaN {o a b : List Int} (h : bI o = 0) : sq o a b 0 := by
 unfold sq;rw [rB, rB, h, Int.zero_add]; rfl
theorem aaO {o eM a b : List Int} {i : Nat} (h : sq o a b i) (hl : i < eM.length) (ax : eM.take i = o.take i) (he : hi eM i = hi o i + a.getD i 0 * bI b) : sq eM a b (i + 1) := by
 unfold sq at *;rw [IA hl, vO, ax, ← h];congr 1;have h1 := mL eM i;have h2 : hi a i * bI b = a.getD i 0 * bI b + 10000 * (hi a (i + 1) * bI b) := by rw [mL a i, Int.add_mul, jl]
 rw [h2];generalize hi a (i + 1) * bI b = u at *;generalize a.getD i 0 * bI b = v at *;omega
theorem aaM {o a b : List Int} {i : Nat} (h : sq o a b i) (hl : a.length ≤ i) : bI o = bI a * bI b := by
 unfold sq at h;rw [rA a hl, Int.zero_mul, Int.add_zero, VH] at h;exact h
theorem VI (n : Nat) : bI (List.replicate n 0) = 0 := by
 induction n with
 | zero => rfl
 | succ n bO => rw [List.replicate_succ, Bd, bO]; rfl
theorem Y9 (n : Nat) : dv (List.replicate n 0) := by
 intro d hd;obtain rfl : d = 0 := List.eq_of_mem_replicate hd;exact ⟨by decide, by decide⟩
theorem Wv (n k : Nat) : (List.replicate n (0 : Int)).getD k 0 = 0 := by
 rw [fZ, List.getElem?_replicate]
 split <;> rfl
theorem K2 {x y : Int} (aa : 0 ≤ x ∧ x < 10000) (ai : 0 ≤ y ∧ y < 10000) : 0 ≤ x * y ∧ x * y ≤ 99980001 := by
 refine ⟨fD aa.1 ai.1, ?_⟩;have h1 : x * y ≤ 9999 * y := lh (by omega) ai.1;omega
def hx (neg : Bool) (n : Int) : Int := if neg then -n else n
theorem Q3 (n : Int) : hx false n = n := rfl
theorem Io (n : Int) : hx true n = -n := rfl
structure Std (neg : Bool) (ds : List Int) (n : Int) : Prop where
 dg : dv ds
 uZ : pY ds
 sign : neg = true → ds ≠ []
 val : n = hx neg (bI ds)
theorem Std.pos {neg : Bool} {ds : List Int} {n : Int} (h : Std neg ds n) (au : ds ≠ []) : 0 < bI ds := by
 have h1 := vN h.dg;rcases Int.lt_or_eq_of_le h1 with k | k
 ·exact k
 ·exact absurd (aa9 h.dg h.uZ k.symm) au
theorem Std.Hz {neg : Bool} {ds : List Int} {n : Int} (h : Std neg ds n) : neg = decide (n < 0) := by
 have h1 := vN h.dg;have hv := h.val;cases neg with
 | false => rw [Q3] at hv; symm; rw [jF]; omega
 | true => have := h.pos (h.sign rfl); rw [Io] at hv; symm; rw [ca]; omega
theorem Std.abs {neg : Bool} {ds : List Int} {n : Int} (h : Std neg ds n) : bI ds = n.natAbs := by
 have h1 := vN h.dg;have hv := h.val;cases neg with
 | false => rw [Q3] at hv; omega
 | true => rw [Io] at hv; omega
theorem Std.len {neg : Bool} {ds : List Int} {n : Int} (h : Std neg ds n) {k : Nat} (af : (n.natAbs : Int) < 10000 ^ k) : ds.length ≤ k := OD h.dg h.uZ (by rw [h.abs]; exact af)
theorem afu {neg : Bool} {ds : List Int} {k : Nat} (hd : dv ds) (hv : bI (ds.take k) = bI ds) (au : pY (ds.take k)) : Std (neg && decide (0 < (ds.take k).length)) (ds.take k) (hx neg (bI ds)) := by
 refine ⟨hd.take k, au, fun h => ?_, ?_⟩
 ·simp only [dx, ca] at h;intro e;rw [e] at h;exact absurd h.2 (by decide)
 ·rw [hv]
  by_cases e : 0 < (ds.take k).length
  ·rw [ck e, Bool.and_true]
  ·have : ds.take k = [] := j3 (by omega);rw [this, K6] at hv;rw [← hv];cases neg <;> simp [hx]
end Go.Proofs.YtbcecodakfejaaaGreat
namespace Go.Proofs.YtbcecodakfejaaaGreat
open Go.RowKit
def e3 (w : World) (A : Option Addr) (l c : Nat) (ds : List Int) : Prop :=
 ds.length = l ∧ l ≤ c ∧ c ≤ 9223372036854775807 ∧ (0 < l → ∃ g, A = some ⟨g, 0, none⟩ ∧ g < w.heap.size ∧ ∀ j, j < l → w.cell? ⟨g, j, none⟩ = some (.int .i64 (ds.getD j 0)))
theorem e3.call {w w' : World} {A : Option Addr} {l c : Nat} {ds : List Int} (h : e3 w A l c ds) (ab : Below w.heap.size w w') : e3 w' A l c ds := by
 obtain ⟨h1, h2, h3, k⟩ := h;refine ⟨h1, h2, h3, fun bX => ?_⟩;obtain ⟨g, rfl, ao, aj⟩ := k bX;exact ⟨g, rfl, r1 ao ab.size, fun j ae => (ab.cell (p := ⟨g, j, none⟩) ao).trans (aj j ae)⟩
theorem e3.alloc {w : World} {A : Option Addr} {l c : Nat} {ds : List Int} (h : e3 w A l c ds) (o : Obj) : e3 (w.alloc o) A l c ds := h.call ((Below.refl _ _).alloc (dl _) o)
theorem e3.take {w : World} {A : Option Addr} {l c : Nat} {ds : List Int} (h : e3 w A l c ds) {k : Nat} (af : k ≤ l) : e3 w A k c (ds.take k) := by
 obtain ⟨h1, h2, h3, aE⟩ := h;refine ⟨by rw [dS]; omega, by omega, h3, fun hp => ?_⟩;obtain ⟨g, e, ao, aj⟩ := aE (by omega);refine ⟨g, e, ao, fun j ae => ?_⟩;rw [aj j (by omega), fZ, fZ, fk ae]
theorem e3.own {w : World} {base : Nat} {v : Value} {n : Nat} {ds : List Int} (h : w.ownsRow base 3 1 v n (ds.map (Value.int .i64))) : ∃ A c, v = .slice A n c ∧ e3 w A n c ds := by
 have hl : ds.length = n := by have := h.1; simpa using this
 have aR := h;rcases h.2 with ⟨rfl, rfl⟩ | ⟨g, cap, cur, rfl, ab, ao, au, hm, hs, ax⟩
 ·exact ⟨none, 0, rfl, hl, dl _, by omega, fun k => absurd k (by omega)⟩
 ·refine ⟨_, cap, rfl, hl, au, by simpa [maxLen] using hm, fun _ => ⟨g, rfl, (jH.1 ao).1, fun j ae => ?_⟩⟩;rw [aR.cellAt j (by omega), ef, bQ (by omega), fZ, bQ (by omega)];rfl
def eh (w : World) (neg : Bool) (A : Option Addr) (l c : Nat) (n : Int) : Prop := ∃ ds, e3 w A l c ds ∧ Std neg ds n
theorem eh.call {w w' : World} {neg : Bool} {A : Option Addr} {l c : Nat} {n : Int} (h : eh w neg A l c n) (ab : Below w.heap.size w w') : eh w' neg A l c n := by
 obtain ⟨ds, h1, h2⟩ := h;exact ⟨ds, h1.call ab, h2⟩
theorem eh.Hz {w : World} {neg : Bool} {A : Option Addr} {l c : Nat} {n : Int} (h : eh w neg A l c n) : neg = decide (n < 0) := by
 obtain ⟨ds, h1, h2⟩ := h;exact h2.Hz
theorem eh.len {w : World} {neg : Bool} {A : Option Addr} {l c : Nat} {n : Int} (h : eh w neg A l c n) {k : Nat} (af : (n.natAbs : Int) < 10000 ^ k) : l ≤ k := by
 obtain ⟨ds, h1, h2⟩ := h;rw [← h1.1];exact h2.len af
def Fr (b : Nat) (A : Option Addr) : Prop := ∀ a, A = some a → b ≤ a.block
def p0 (n : Int) (w : World) (e : Ending) (w' : World) : Prop := ∃ neg A l c, e = .returned (.agg #[.bool neg, .slice A l c]) ∧ eh w' neg A l c n ∧ Below w.heap.size w w' ∧ Fr w.heap.size A
def AF (n : Int) (k : Nat) (w : World) (e : Ending) (w' : World) : Prop := ∃ A l c ds, e = .returned (.slice A l c) ∧ e3 w' A l c ds ∧ dv ds ∧ bI ds = n ∧ l ≤ k ∧ Below w.heap.size w w' ∧ Fr w.heap.size A
def Ji (n : Int) (A : Option Addr) (c : Nat) (w : World) (e : Ending) (w' : World) : Prop := ∃ neg l, e = .returned (.agg #[.bool neg, .slice A l c]) ∧ eh w' neg A l c n ∧ Below w.heap.size w w'
theorem Fr.own {w : World} {base : Nat} {t : TypeId} {A : Option Addr} {n c : Nat} {xs : List Value} (h : w.ownsRow base t 1 (.slice A n c) n xs) : Fr base A := fun a e => by
 subst e;exact (h.lt a.block rfl).1
theorem A1 (w : World) : Calls ag 116 #[] w fun e w' => e = .returned (.int .i64 10000) ∧ w = w' := by
 go_enter Tryz.func116, Tryz.ntmps116
 go_wp2
 go_ret
 exact ⟨rfl, rfl⟩
theorem vM (A : Option Addr) (l c : Nat) (ds : List Int) (k : Nat) (w : World) (h : e3 w A l c ds) (hl : l ≤ 1000) (af : k ≤ 1000) :
  Calls ag 115 #[.slice A l c, .int .i64 k] w fun e w' => e = .returned (.int .i64 (ds.getD k 0)) ∧ w = w' := by
 obtain ⟨h1, h2, h3, aE⟩ := h
 by_cases a8 : k < l
 ·obtain ⟨g, rfl, ao, jc⟩ := aE (by omega);have eD := jc k a8;generalize ds.getD k 0 = d at *;clear aE jc h1
  go_enter Tryz.func115, Tryz.ntmps115
  go_wp2
  go_ret
  exact ⟨rfl, rfl⟩
 ·have lu : Hid (ds.getD k 0 = 0) := by unfold Hid; simp [fZ, lQ (show ds.length ≤ k by omega)]
  clear aE h1
  go_enter Tryz.func115, Tryz.ntmps115
  go_wp2
  go_ret
  rw [lu.out];exact ⟨rfl, rfl⟩
end Go.Proofs.YtbcecodakfejaaaGreat
namespace Go.Proofs.YtbcecodakfejaaaGreat
open Go.RowKit
def KA : Value → Nat
 | .slice _ k _ => k
 | _ => 0
theorem Ia {neg : Bool} {A : Option Addr} {l c k : Nat} {ds : List Int} {w w' : World} (h : e3 w A l c ds) (hd : dv ds) (af : k ≤ l) (hv : bI (ds.take k) = bI ds) (aI : 0 < k → ds.getD (k - 1) 0 ≠ 0)
  (ab : Below w.heap.size w w') {x : Bool} (aa : x = (neg && decide (0 < k))) : Ji (hx neg (bI ds)) A c w (.returned (.agg #[.bool x, .slice A k c])) w' := by
 have hl : (ds.take k).length = k := by rw [dS, h.1]; omega
 have au : pY (ds.take k) := by
  intro hp;rw [hl] at hp ⊢;rw [fZ, fk (by omega), ← fZ];exact aI hp
 have hs := afu (neg := neg) hd hv au;rw [hl] at hs;exact ⟨_, _, by rw [aa], ⟨_, (h.take af).call ab, hs⟩, ab⟩
theorem afO {ds : List Int} {k l : Nat} (hl : ds.length = l) (af : k + 1 ≤ l) (hv : bI (ds.take (k + 1)) = bI ds) (aI : ds.getD k 0 = 0) : bI (ds.take k) = bI ds := by
 rw [IA (by omega), aI] at hv;unfold bI at *;rw [vO] at hv;simpa using hv
theorem zZ (neg : Bool) (A : Option Addr) (l c : Nat) (ds : List Int) (w : World) (h : e3 w A l c ds) (hd : dv ds) (hl : l ≤ 1000) :
  Calls ag 110 #[.agg #[.bool neg, .slice A l c]] w (Ji (hx neg (bI ds)) A c w) := by
 obtain ⟨h1, h2, h3, aE⟩ := id h
 have a8 : ∀ k, k + 1 ≤ l → ∃ g, A = some ⟨g, 0, none⟩ ∧ g < w.heap.size ∧ w.cell? ⟨g, k, none⟩ = some (.int .i64 (ds.getD k 0)) := fun k af => by
  obtain ⟨g, e, ao, aj⟩ := aE (by omega);exact ⟨g, e, ao, aj k (by omega)⟩
 have H1 := Lib.hid h1;have D5 := Lib.hid a8;clear h1 a8 aE
 go_enter Tryz.func110, Tryz.ntmps110
 go_wp2
 go_loop [3] (fun d => ∃ k : Nat, k ≤ l ∧ d = .slice A k c ∧ Hid (bI (ds.take k) = bI ds)) (fun d => KA d)
 case atStart => exact ⟨l, dl _, rfl, by unfold Hid; rw [hq (by rw [H1.out]; omega)]⟩
 case round =>
  obtain ⟨k, af, rfl, hv⟩ := hrel;rcases k with _ | k
  ·go_wp2
   all_goals
    refine bodyPost_ret (v := .agg #[.bool false, .slice A 0 c]) (by simp only [results, Tryz.results110]; go_simp) rfl (Ia h hd af hv.out (fun h => absurd h (by omega)) ?_ (by simp));(repeat first | with_reducible exact Below.refl _ _ | with_reducible refine dC ?_ _)
  ·obtain ⟨g, rfl, ao, aj⟩ := D5.out k af
   by_cases aI : ds.getD k 0 = 0
   ·have bP : Hid (bI (ds.take k) = bI ds) := afO H1.out af hv.out aI;rw [aI] at aj;clear aI
    go_wp2
    go_round
    case rel => exact ⟨k, by omega, by simp, bP⟩
    case measure => simp [KA]
   ·have s9 := Lib.hid aI;have bX : (ds.getD k 0 == 0) = false := by simpa using aI
    clear aI;generalize yp : ds.getD k 0 = d at aj bX;have mB := Lib.hid yp;clear yp
    go_wp2
    ·refine bodyPost_ret (v := .agg #[.bool true, .slice (some ⟨g, 0, none⟩) (k + 1) c]) (by simp only [results, Tryz.results110]; go_simp) rfl (Ia (neg := true) h hd af hv.out (fun _ => s9.out) ?_ (by simp));(repeat first | with_reducible exact Below.refl _ _ | with_reducible refine dC ?_ _)
    ·refine bodyPost_ret (v := .agg #[.bool false, .slice (some ⟨g, 0, none⟩) (k + 1) c]) (by simp only [results, Tryz.results110]; go_simp) rfl (Ia (neg := false) h hd af hv.out (fun _ => s9.out) ?_ (by simp));(repeat first | with_reducible exact Below.refl _ _ | with_reducible refine dC ?_ _)
theorem afP (neg : Bool) (A : Option Addr) (l c : Nat) (ds : List Int) (w : World) (h : e3 w A l c ds) (hd : dv ds) (hl : l ≤ 1000) :
  Calls ag 110 #[.agg #[.bool neg, .slice A l c]] w fun e w' => ∃ x cw, e = .returned (.agg #[.bool x, .slice A cw c]) ∧ eh w' x A cw c (hx neg (bI ds)) ∧ cw ≤ l ∧ Below w.heap.size w w' :=
 (zZ neg A l c ds w h hd hl).mono fun _ _ ⟨x, cw, h1, h2, h3⟩ => ⟨x, cw, h1, h2, h2.len (by
  have a := VG hd;have b := vN hd;rw [h.1] at a;cases neg <;> simp only [hx, if_true, mZ, if_false] <;> omega), h3⟩
end Go.Proofs.YtbcecodakfejaaaGreat
namespace Go.Proofs.YtbcecodakfejaaaGreat
open Go.RowKit
theorem M5 {a b : Int} (h : a < b) : cD a b = -1 := by unfold cD; rw [if_neg (by omega), if_pos h]
theorem M4 {a b : Int} (h : b < a) : cD a b = 1 := by unfold cD; rw [if_neg (by omega), if_neg (by omega)]
theorem YT {a b : Int} (h : a = b) : cD a b = 0 := by unfold cD; rw [if_pos h]
theorem Dv (A B : Option Addr) (l c m d : Nat) (ds es : List Int) (w : World) (h : e3 w A l c ds) (k : e3 w B m d es) (hd : dv ds) (he : dv es) (hl : l ≤ 1000) (hm : m ≤ 1000) :
  Calls ag 112 #[.slice A l c, .slice B m d] w fun e w' => e = .returned (.int .i64 (cD (bI ds) (bI es))) ∧ w = w' := by
 have H1 := Lib.hid h.1;have cQ := Lib.hid k.1;have kH := Lib.hid hd;have nz := Lib.hid he;have hs := Lib.hid h;have za := Lib.hid k;clear hd he h k
 go_enter Tryz.func112, Tryz.ntmps112
 go_wp2
 all_goals
  go_loop [5] (fun i => ∃ k : Nat, i = .int .i64 ((k : Int) - 1) ∧ k ≤ 1000 ∧ Hid (hi ds k = hi es k)) (fun i => (intOf i + 1).toNat)
  case atStart => first
   | exact ⟨l, rfl, by omega, by unfold Hid; rw [rA ds (by rw [H1.out]; omega), rA es (by rw [cQ.out]; omega)]⟩
   | exact ⟨m, rfl, by omega, by unfold Hid; rw [rA ds (by rw [H1.out]; omega), rA es (by rw [cQ.out]; omega)]⟩
  case round =>
   obtain ⟨k, rfl, af, aR⟩ := hrel;rcases k with _ | k
   ·rw [show (((0 : Nat) : Int) - 1) = -1 from rfl]
    go_wp2
    go_ret
    exact ⟨tF (YT aR.out).symm, rfl⟩
   ·rw [show (((k + 1 : Nat) : Int) - 1) = (k : Int) by omega];have g1 := kH.out.getD k;have g2 := nz.out.getD k;have aF := fun h => Q9 k kH.out nz.out h aR.out;have aN := fun h => Q9 k nz.out kH.out h aR.out.symm;have b5 : ds.getD k 0 = es.getD k 0 → hi ds k = hi es k := fun h => by rw [mL ds k, mL es k, h, aR.out]
    have c1 := fun w h => vM A l c ds k w h hl (by omega);have c2 := fun w h => vM B m d es k w h hm (by omega);have kW := Lib.hid aF;have xo := Lib.hid aN;have Sg := Lib.hid b5;have aU := Lib.hid c1;have bD := Lib.hid c2;clear aF aN b5 c1 c2;generalize ds.getD k 0 = x at *;generalize es.getD k 0 = y at *
    go_wp2_with (go_at_call 115; first | ((with_reducible refine (aU.out _ hs.out).mono ?_); rintro e w' ⟨rfl, rfl⟩) | ((with_reducible refine (bD.out _ za.out).mono ?_); rintro e w' ⟨rfl, rfl⟩))
    ·go_ret
     exact ⟨tF (M5 (kW.out (by assumption))).symm, rfl⟩
    ·go_ret
     exact ⟨tF (M4 (xo.out (by assumption))).symm, rfl⟩
    ·go_round
     case rel => exact ⟨k, rfl, by omega, Sg.out (by omega)⟩
     case measure => simp [intOf]
end Go.Proofs.YtbcecodakfejaaaGreat
namespace Go.Proofs.YtbcecodakfejaaaGreat
open Go.RowKit
theorem y2 : (ag.info? 3).map (fun i => (i.zero, i.size, i.bytes)) = some (some (.int .i64 0), 1, 8) := by kernel_rfl
structure xB (w wr : World) (ds es : List Int) (l m : Nat) (v : Value) (c : Int) (k : Nat) (os : List Int) : Prop where
 gr : 0 ≤ c
 c1 : c ≤ 1
 len : os.length = k
 dg : dv os
 val : gu os (c + hi ds k + hi es k) = bI ds + bI es
 more : 0 < c → k ≤ l ∨ k ≤ m
 top : k ≤ l ∨ k ≤ m + 1 ∨ k ≤ l + 1
 own : wr.ownsRow w.heap.size 3 1 v k (os.map (Value.int .i64))
 below : Below w.heap.size w wr
theorem adu (w : World) (ds es : List Int) (l m : Nat) : xB w w ds es l m (.slice none 0 0) 0 0 [] :=
 ⟨by omega, by omega, rfl, dv.nil, by show (0 : Int) + _ + _ = _; rw [rB, rB]; omega, fun h => absurd h (by omega), .inl (dA _), World.ownsRow_nil _ _ _ _, Below.refl _ _⟩
theorem adt {w wr w1 : World} {ds es os : List Int} {l m k : Nat} {v v' : Value} {c : Int} {o : Obj} (h : xB w wr ds es l m v c k os) (hl : ds.length = l) (hm : es.length = m) (hd : dv ds) (he : dv es)
  (ik : k < l ∨ k < m ∨ 0 < c) {s : Int} (hs : s = c + ds.getD k 0 + es.getD k 0)
  (cB : w1.ownsRow w.heap.size 3 1 v' (k + 1) (os.map (Value.int .i64) ++ [.int .i64 (s % 10000)])) (ao : (wr.alloc o).grownBy w1 v.ownBlock) : xB w w1 ds es l m v' (s / 10000) (k + 1) (os ++ [s % 10000]) := by
 have g1 := hd.getD k;have g2 := he.getD k;have aA := h.gr; have h1 := h.c1; have X1 := h.more;have gU : l ≤ k → ds.getD k 0 = 0 := fun q => by simp [fZ, lQ (show ds.length ≤ k by omega)]
 have z2 : m ≤ k → es.getD k 0 = 0 := fun q => by simp [fZ, lQ (show es.length ≤ k by omega)]
 refine ⟨by omega, by omega, by rw [cx, h.len]; rfl, h.dg.snoc (by omega) (by omega), by rw [hs]; exact adv h.val, fun q => ?_, ?_, by rw [List.map_append]; exact cB, ?_⟩
 ·by_cases q1 : k < l
  ·exact .inl (by omega)
  ·by_cases q2 : k < m
   ·exact .inr (by omega)
   ·have := gU (by omega); have := z2 (by omega); omega
 ·rcases ik with q | q | q
  ·exact .inl (by omega)
  ·exact .inr (.inl (by omega))
  ·have := X1 q; omega
 ·refine (h.below.alloc h.below.size o).grown ao (by have := h.below.size; simp; omega) (fun j ae => (h.own.lt j ae).1)
theorem ads {w wr : World} {ds es os : List Int} {l m k : Nat} {v : Value} {c : Int} (h : xB w wr ds es l m v c k os) (hl : ds.length = l) (hm : es.length = m) (h1 : l ≤ k) (h2 : m ≤ k) (h3 : c ≤ 0) : AF (bI ds + bI es) (max l m + 1) w (.returned v) wr := by
 obtain ⟨A, c', rfl, ey⟩ := e3.own h.own;have e : c = 0 := by have := h.gr; omega
 have hv := h.val;rw [e, rA ds (by omega), rA es (by omega)] at hv;exact ⟨A, k, c', os, rfl, ey, h.dg, hv, by have := h.top; omega, h.below, Fr.own h.own⟩
theorem aeo (A B : Option Addr) (l c m d : Nat) (ds es : List Int) (w : World) (h : e3 w A l c ds) (k : e3 w B m d es) (hd : dv ds) (he : dv es) (hl : l ≤ 900) (hm : m ≤ 900) :
  Calls ag 111 #[.slice A l c, .slice B m d] w (AF (bI ds + bI es) (max l m + 1) w) := by
 obtain ⟨i0, mK, jW, mS, jX⟩ := info_parts y2;have H1 := Lib.hid h.1;have cQ := Lib.hid k.1;have kH := Lib.hid hd;have nz := Lib.hid he;have hs := Lib.hid h;have za := Lib.hid k;have oV := Lib.hid mK;have iZ := Lib.hid jW;have n0 := Lib.hid mS;have oW := Lib.hid jX;clear hd he h k mK jW mS jX
 go_enter Tryz.func111, Tryz.ntmps111
 go_wp2
 go_loopw [5, 6, 7] (fun v c i wr => ∃ (k : Nat) (dc : Int) (os : List Int), c = .int .i64 dc ∧ i = .int .i64 k ∧ xB w wr ds es l m v dc k os) (fun _ _ i _ => 2000 - (intOf i).toNat)
 case atStart => exact ⟨0, 0, [], rfl, rfl, adu w ds es l m⟩
 case round =>
  obtain ⟨k, dc, os, rfl, rfl, al⟩ := hrel;have fN := al.gr;have b1 := al.c1;have b2 := al.top;have dQ := al.more;have lu := Lib.hid al;have aU := Lib.hid (fun w h => vM A l c ds k w h (by omega) (by omega));have bD := Lib.hid (fun w h => vM B m d es k w h (by omega) (by omega));have g1 := kH.out.getD k;have g2 := nz.out.getD k;have Bz := Lib.hid (hs.out.call al.below);have BA := Lib.hid (za.out.call al.below);clear al;have N := Lib.hid (fun (w1 : World) (v' : Value) (o : Obj) ik cB ao => adt (w1 := w1) (v' := v') (o := o) lu.out H1.out cQ.out kH.out nz.out ik rfl cB ao);generalize ds.getD k 0 = x at *;generalize es.getD k 0 = y at *
  by_cases ik : k < l ∨ k < m ∨ 0 < dc
  ·have XL := Lib.hid ik;have iC := Lib.hid lu.out.own;have q0 : 0 ≤ dc + x + y := by omega
   have bB := lu.out.below.size;have M := Lib.hid (fun w1 v' o => N.out w1 v' o XL.out);clear N;have ej : (l < m ∧ k < m) ∨ (l < m ∧ m ≤ k ∧ 0 < dc) ∨ (m ≤ l ∧ k < l) ∨ (m ≤ l ∧ l ≤ k ∧ 0 < dc) := by omega
   rcases ej with ⟨t1, t2⟩ | ⟨t1, t2, t3⟩ | ⟨t1, t2⟩ | ⟨t1, t2, t3⟩
   all_goals
    go_wp2_with (first
     | (go_at_call 115; first | ((with_reducible refine (aU.out _ Bz.out).mono ?_); rintro e w' ⟨rfl, rfl⟩) | ((with_reducible refine (bD.out _ BA.out).mono ?_); rintro e w' ⟨rfl, rfl⟩))
     | (go_at_call 116; (with_reducible refine (A1 _).mono ?_); rintro e w' ⟨rfl, rfl⟩)
     | (at_builtin; refine wpList_append_own _ rfl _ _ 32 rfl w.heap.size 3 i0 (.int .i64 0) 1 8 Tryz.underlying32 oV.out iZ.out n0.out oW.out rfl (by decide) _ _ _ rfl (iC.out.alloc _) ⟨wr.heap.size, 0, none⟩ 1 1 [.int .i64 ((dc + x + y) % 10000)] rfl rfl (cell_one_new _ _ _) (by simp [Value.oneCell']) (by simp only [maxLen]; omega) (by omega) (by simp; omega) ?_; intro v' w1 k8 k6 pp; clear pp; have R := Lib.hid (M.out w1 v' _ k8 k6); clear k8 k6))
    all_goals first
     | (exfalso; omega)
     | (refine ⟨⟨k + 1, _, _, rfl, by go_num, R.out⟩, ?_⟩; simp [intOf]; omega)
  ·clear N;have t3 : dc ≤ 0 := by omega
   have t4 : l ≤ k := by omega
   have t5 : m ≤ k := by omega
   rcases hM l m with XZ | XZ
   all_goals
    go_wp2
    all_goals first
     | (exfalso; omega)
     | (go_ret; exact ads lu.out H1.out cQ.out t4 t5 t3)
end Go.Proofs.YtbcecodakfejaaaGreat
namespace Go.Proofs.YtbcecodakfejaaaGreat
open Go.RowKit
theorem Qn {P : Program} {f : FuncId} {args : Array Value} {w : World} {n : Nat} {v : Value}
  (h : Calls P f args (w.drewN n) fun e w' => e = .returned v ∧ w.drewN n = w') : Calls P f args (w.drewN n) fun e af8 => e = .returned v ∧ ∃ m, af8 = w.drewN m :=
 h.mono fun _ _ ⟨he, hm⟩ => ⟨he, n, hm.symm⟩
theorem e3.drewN {w : World} {A : Option Addr} {l c : Nat} {ds : List Int} (h : e3 w A l c ds) (n : Nat) : e3 (w.drewN n) A l c ds := h
theorem Kc {B : Nat} {a w : World} (h : Below B a w) (n : Nat) : Below B a (w.drewN n) := ⟨h.os, h.tape, h.output, h.size, h.block⟩
structure sn (w wr : World) (ds es : List Int) (l : Nat) (v : Value) (c : Int) (k : Nat) (os : List Int) : Prop where
 gr : 0 ≤ c
 c1 : c ≤ 1
 len : os.length = k
 dg : dv os
 val : gu os (hi ds k - hi es k - c) = bI ds - bI es
 top : k ≤ l
 own : wr.ownsRow w.heap.size 3 1 v k (os.map (Value.int .i64))
 below : Below w.heap.size w wr
theorem aaz (w : World) (ds es : List Int) (l : Nat) : sn w w ds es l (.slice none 0 0) 0 0 [] :=
 ⟨by omega, by omega, rfl, dv.nil, by show hi ds 0 - hi es 0 - 0 = _; rw [rB, rB]; omega, dA _, World.ownsRow_nil _ _ _ _, Below.refl _ _⟩
theorem aay {w wr w1 : World} {ds es os : List Int} {l k : Nat} {v v' : Value} {c : Int} {o : Obj} (h : sn w wr ds es l v c k os)
  (ik : k < l) {x c' : Int} (aA : 0 ≤ x) (h1 : x < 10000) (uy : 0 ≤ c') (hG : c' ≤ 1) (hs : x - 10000 * c' = ds.getD k 0 - es.getD k 0 - c)
  (cB : w1.ownsRow w.heap.size 3 1 v' (k + 1) (os.map (Value.int .i64) ++ [.int .i64 x])) (ao : (wr.alloc o).grownBy w1 v.ownBlock) : sn w w1 ds es l v' c' (k + 1) (os ++ [x]) := by
 refine ⟨uy, hG, by rw [cx, h.len]; rfl, h.dg.snoc aA h1, aaA h.val hs, by omega, by rw [List.map_append]; exact cB, ?_⟩;exact (h.below.alloc h.below.size o).grown ao (by have := h.below.size; simp; omega) (fun j ae => (h.own.lt j ae).1)
theorem aax {w wr : World} {ds es os : List Int} {l k : Nat} {v : Value} {c : Int} (h : sn w wr ds es l v c k os) (hl : ds.length = l) (he : dv es) (h1 : l ≤ k) (hle : bI es ≤ bI ds) : AF (bI ds - bI es) l w (.returned v) wr := by
 obtain ⟨A, c', rfl, ey⟩ := e3.own h.own;have hv := h.val;have ax := h.top;obtain rfl : k = ds.length := by omega
 exact ⟨A, _, c', os, rfl, ey, h.dg, aaw h.dg he h.gr hle hv, by omega, h.below, Fr.own h.own⟩
theorem sn.drewN {w wr : World} {ds es os : List Int} {l k : Nat} {v : Value} {c : Int} (h : sn w wr ds es l v c k os) (n : Nat) : sn w (wr.drewN n) ds es l v c k os :=
 ⟨h.gr, h.c1, h.len, h.dg, h.val, h.top, h.own, Kc h.below n⟩
theorem QC (A B : Option Addr) (l c m d : Nat) (ds es : List Int) (w : World) (h : e3 w A l c ds) (k : e3 w B m d es) (hd : dv ds) (he : dv es) (hl : l ≤ 900) (hm : m ≤ 900) (hle : bI es ≤ bI ds) :
  Calls ag 113 #[.slice A l c, .slice B m d] w (AF (bI ds - bI es) l w) := by
 obtain ⟨i0, mK, jW, mS, jX⟩ := info_parts y2;have H1 := Lib.hid h.1;have kH := Lib.hid hd;have nz := Lib.hid he;have hs := Lib.hid h;have za := Lib.hid k;have oV := Lib.hid mK;have iZ := Lib.hid jW;have n0 := Lib.hid mS;have oW := Lib.hid jX;have D5 := Lib.hid hle;clear hd he h k mK jW mS jX hle
 go_enter Tryz.func113, Tryz.ntmps113
 go_wp2
 go_loopw [5, 6, 7] (fun v c i wr => ∃ (k : Nat) (dc : Int) (os : List Int), c = .int .i64 dc ∧ i = .int .i64 k ∧ sn w wr ds es l v dc k os) (fun _ _ i _ => l - (intOf i).toNat)
 case atStart => exact ⟨0, 0, [], rfl, rfl, aaz w ds es l⟩
 case round =>
  obtain ⟨k, dc, os, rfl, rfl, al⟩ := hrel;have fN := al.gr;have b1 := al.c1;have b2 := al.top;have lu := Lib.hid al;have bD := Lib.hid (fun w h => vM B m d es k w h (by omega) (by omega));have g1 := kH.out.getD k;have g2 := nz.out.getD k;have BA := Lib.hid (za.out.call al.below);have Bz := hs.out.call al.below;have iC := Lib.hid al.own;have bB := al.below.size
  by_cases ik : k < l
  ·obtain ⟨b8, cp, jM, aE⟩ := Bz;obtain ⟨g, rfl, ao, jc⟩ := aE (by omega);have Mi := jc k ik;clear aE jc al b8 cp jM;generalize uw : ds.getD k 0 = x at Mi g1;generalize v8 : es.getD k 0 = y at g2 bD
   replace uw := Lib.hid uw
   replace v8 := Lib.hid v8
   have fX : (0 : Int) ≤ (k : Int) := by omega
   have bd : (k : Int) < (l : Int) := by omega
   have s1 : IntKind.i64.wrap (x - y) = x - y := IntWalk.i64_in _ (by omega);have s2 : IntKind.i64.wrap (x - y - dc) = x - y - dc := IntWalk.i64_in _ (by omega)
   go_wp2_with fail
   go_quiet ((go_at_call 115; exact Qn (bD.out _ (BA.out.drewN _))))
   clear s1 s2 Mi ao;have pW := lu.out.drewN nq;generalize wr.drewN nq = IL at *;clear lu BA iC bB bD;have iC := Lib.hid pW.own;have bB := pW.below.size;have N := Lib.hid (fun (w1 : World) (v' : Value) (o : Obj) (z c' : Int) aA h1 uy hG hs cB ao => aay (w1 := w1) (v' := v') (o := o) (x := z) (c' := c') pW ik aA h1 uy hG hs cB ao);clear pW;rw [uw.out, v8.out] at N
   by_cases ahA : x - y - dc < 0
   ·have M := Lib.hid (fun (w1 : World) (v' : Value) (o : Obj) cB ao => N.out w1 v' o (x - y - dc + 10000) 1 (by omega) (by omega) (by omega) (by omega) (by omega) cB ao);clear N
    go_wp2_with (first
     | (go_at_call 116; (with_reducible refine (A1 _).mono ?_); rintro e w' ⟨rfl, rfl⟩)
     | (at_builtin; refine wpList_append_own _ rfl _ _ 32 rfl w.heap.size 3 i0 (.int .i64 0) 1 8 Tryz.underlying32 oV.out iZ.out n0.out oW.out rfl (by decide) _ _ _ rfl (iC.out.alloc _) ⟨IL.heap.size, 0, none⟩ 1 1 [.int .i64 (x - y - dc + 10000)] rfl rfl (cell_one_new _ _ _) (by simp [Value.oneCell']) (by simp only [maxLen]; omega) (by omega) (by simp; omega) ?_; intro v' w1 k8 k6 pp; clear pp; have R := Lib.hid (M.out w1 v' _ k8 k6); clear k8 k6))
    refine ⟨⟨k + 1, _, _, rfl, by go_num, R.out⟩, ?_⟩;simp [intOf]; omega
   ·have M := Lib.hid (fun (w1 : World) (v' : Value) (o : Obj) cB ao => N.out w1 v' o (x - y - dc) 0 (by omega) (by omega) (by omega) (by omega) (by omega) cB ao);clear N
    go_wp2_with (first
     | (go_at_call 116; (with_reducible refine (A1 _).mono ?_); rintro e w' ⟨rfl, rfl⟩)
     | (at_builtin; refine wpList_append_own _ rfl _ _ 32 rfl w.heap.size 3 i0 (.int .i64 0) 1 8 Tryz.underlying32 oV.out iZ.out n0.out oW.out rfl (by decide) _ _ _ rfl (iC.out.alloc _) ⟨IL.heap.size, 0, none⟩ 1 1 [.int .i64 (x - y - dc)] rfl rfl (cell_one_new _ _ _) (by simp [Value.oneCell']) (by simp only [maxLen]; omega) (by omega) (by simp; omega) ?_; intro v' w1 k8 k6 pp; clear pp; have R := Lib.hid (M.out w1 v' _ k8 k6); clear k8 k6))
    refine ⟨⟨k + 1, _, _, rfl, by go_num, R.out⟩, ?_⟩;simp [intOf]; omega
  ·clear Bz al
   go_wp2
   go_ret
   exact aax lu.out H1.out nz.out (by omega) D5.out
end Go.Proofs.YtbcecodakfejaaaGreat
namespace Go.Proofs.YtbcecodakfejaaaGreat
open Go.RowKit
theorem eh.alloc {w : World} {neg : Bool} {A : Option Addr} {l c : Nat} {n : Int} (h : eh w neg A l c n) (o : Obj) : eh (w.alloc o) neg A l c n := h.call ((Below.refl _ _).alloc (dl _) o)
def ga (w : World) (b : Nat) : Prop := ∃ x u, cM w b (.bool x) u
theorem ga.of {w : World} {b : Nat} {x : Bool} {u : Value} (h : cM w b (.bool x) u) : ga w b := ⟨x, u, h⟩
theorem ga.call {w w1 : World} {b : Nat} (h : ga w b) (ab : Below w.heap.size w w1) : ga w1 b := by
 obtain ⟨x, u, k⟩ := h;exact ⟨x, u, k.call ab⟩
theorem ga.drew {w : World} {b : Nat} (h : ga w b) : ga w.drew b := by
 obtain ⟨x, u, k⟩ := h;exact ⟨x, u, k.drew⟩
theorem ga.new {w : World} {b : Nat} {x : Bool} {u : Value} {t : TypeId} (e : b = w.heap.size) : ga (w.alloc (.cells #[.bool x, u] t)) b := ⟨x, u, cM.new e⟩
theorem e3.set {w : World} {A : Option Addr} {l c : Nat} {ds : List Int} (h : e3 w A l c ds) {b : Nat} {x : Bool} (ab : w.cell? ⟨b, 0, none⟩ = some (.bool x)) (o : Nat) (v : Value) : e3 (w.setCell ⟨b, o, none⟩ v) A l c ds := by
 obtain ⟨h1, h2, h3, aE⟩ := h;refine ⟨h1, h2, h3, fun hp => ?_⟩;obtain ⟨g, e, ao, aj⟩ := aE hp
 have bX : g ≠ b := by
  rintro rfl;have := aj 0 hp;rw [ab] at this;cases this
 refine ⟨g, e, by simpa [World.setCell] using ao, fun j ae => ?_⟩;rw [World.cell?_setCell_other _ _ _ _ (fun e => bX (congrArg Addr.block e).symm)];exact aj j ae
theorem eh.put {w : World} {neg : Bool} {A : Option Addr} {l c : Nat} {n : Int} {b : Nat} {x : Bool} {u : Value} (h : eh w neg A l c n) (ab : ga w b) : eh ((w.setCell ⟨b, 0, none⟩ (.bool x)).setCell ⟨b, 1, none⟩ u) neg A l c n := by
 obtain ⟨ds, ey, hS⟩ := h;obtain ⟨y, v, ⟨bd, bC⟩, ez, jz⟩ := ab;refine ⟨ds, (ey.set bd _ _).set (x := x) ?_ _ _, hS⟩;rw [World.cell?_setCell_same _ _ _ bd]
theorem aeU (neg : Bool) (n : Int) : hx (!neg) n = -hx neg n := by cases neg <;> simp [hx]
theorem adP (neg : Bool) (A : Option Addr) (l c : Nat) (n : Int) (w : World) (h : eh w neg A l c n) (hl : l ≤ 1000) :
  Calls ag 109 #[.agg #[.bool neg, .slice A l c]] w fun e w' => ∃ x cw, e = .returned (.agg #[.bool x, .slice A cw c]) ∧ eh w' x A cw c (-n) ∧ cw ≤ l ∧ Below w.heap.size w w' := by
 obtain ⟨ds, ey, hS⟩ := h;have hv : Hid (hx (!neg) (bI ds) = -n) := by unfold Hid; rw [aeU, hS.val]
 have hd := Lib.hid hS.dg;clear hS
 go_enter Tryz.func109, Tryz.ntmps109
 go_wp2_with (go_at_call 110; refine (afP _ _ _ _ ds _ ((ey.alloc _).alloc _) hd.out hl).mono ?_; rintro e w1 ⟨b8, l1, rfl, h1, Gf, ab⟩; have vF := Below.cell ab (p := ⟨w.heap.size, 0, none⟩) (by (simp; omega)); have vR := Below.frozen ab (p := ⟨w.heap.size, 0, none⟩) (by (simp; omega)); have vG := Below.cell ab (p := ⟨w.heap.size, 1, none⟩) (by (simp; omega)); have vS := Below.frozen ab (p := ⟨w.heap.size, 1, none⟩) (by (simp; omega)); have xW := Below.cell ab (p := ⟨w.heap.size + 1, 0, none⟩) (by (simp; done)); have x9 := Below.frozen ab (p := ⟨w.heap.size + 1, 0, none⟩) (by (simp; done)); have xX := Below.cell ab (p := ⟨w.heap.size + 1, 1, none⟩) (by (simp; done)); have ya := Below.frozen ab (p := ⟨w.heap.size + 1, 1, none⟩) (by (simp; done)); have nG := Below.size ab; (try simp at nG); have wQ : ¬ w1.heap.size = w.heap.size := (by omega); have zj : ¬ w1.heap.size = w.heap.size + 1 := (by omega))
 rw [hv.out] at h1;refine bodyPost_ret (v := .agg #[.bool b8, .slice A l1 c]) (by simp only [results, Tryz.results109]; go_simp) rfl ⟨_, _, rfl, ?_, Gf, ?_⟩
 ·(repeat first | with_reducible assumption | with_reducible refine eh.put ?_ ?_ | focus ((with_reducible refine ga.new ?_); simp; done) | with_reducible refine ga.call ?_ ab)
 ·(repeat first | with_reducible exact Below.refl _ _ | with_reducible refine dC ?_ _ | focus ((with_reducible refine gZ ?_ _ _ _ ?_); rotate_left; omega) | with_reducible refine eR ?_ ab)
end Go.Proofs.YtbcecodakfejaaaGreat
namespace Go.Proofs.YtbcecodakfejaaaGreat
open Go.RowKit
theorem YU (a b : Int) : cD (-a) (-b) = cD b a := by
 unfold cD
 repeat' split
 all_goals omega
theorem Std.OI {ds : List Int} {n : Int} (h : Std false ds n) : 0 ≤ n := by rw [h.val]; exact vN h.dg
theorem Std.below {ds : List Int} {n : Int} (h : Std true ds n) : n < 0 := by have := h.pos (h.sign rfl); rw [h.val]; simp [hx]; omega
theorem adN (x y : Bool) (A B : Option Addr) (l c cw c' : Nat) (n m : Int) (w : World) (h : eh w x A l c n) (k : eh w y B cw c' m) (hl : l ≤ 1000) (e0 : cw ≤ 1000) :
  Calls ag 76 #[.agg #[.bool x, .slice A l c], .agg #[.bool y, .slice B cw c']] w (kz (.int .i64 (cD n m)) w) := by
 obtain ⟨ds, ey, hS⟩ := h;obtain ⟨es, fp, cy⟩ := k;have hd := Lib.hid hS.dg;have he := Lib.hid cy.dg;have aU := Lib.hid (fun w h1 h2 => Dv A B l c cw c' ds es w h1 h2 hd.out he.out hl e0);have bD := Lib.hid (fun w h1 h2 => Dv B A cw c' l c es ds w h1 h2 he.out hd.out e0 hl);have nj := Lib.hid ey;have lr := Lib.hid fp;clear ey fp;cases x <;> cases y
 ·have hv : Hid (cD (bI ds) (bI es) = cD n m) := by unfold Hid; rw [hS.val, cy.val]; rfl
  clear hS cy
  go_enter Tryz.func76, Tryz.ntmps76
  go_wp2_with (go_at_call 112; refine (aU.out _ ((nj.out.alloc _).alloc _) ((lr.out.alloc _).alloc _)).mono ?_; rintro e w1 ⟨rfl, rfl⟩)
  go_ret
  exact ⟨tF hv.out, by (repeat first | with_reducible exact Below.refl _ _ | with_reducible refine dC ?_ _)⟩
 ·have hv : Hid (cD n m = 1) := M4 (by have := hS.OI; have := cy.below; omega);clear hS cy
  go_enter Tryz.func76, Tryz.ntmps76
  go_wp2
  go_ret
  exact ⟨tF hv.out.symm, by (repeat first | with_reducible exact Below.refl _ _ | with_reducible refine dC ?_ _)⟩
 ·have hv : Hid (cD n m = -1) := M5 (by have := hS.below; have := cy.OI; omega);clear hS cy
  go_enter Tryz.func76, Tryz.ntmps76
  go_wp2
  go_ret
  exact ⟨tF hv.out.symm, by (repeat first | with_reducible exact Below.refl _ _ | with_reducible refine dC ?_ _)⟩
 ·have hv : Hid (cD (bI es) (bI ds) = cD n m) := by unfold Hid; rw [hS.val, cy.val]; simp only [Io]; rw [YU]
  clear hS cy
  go_enter Tryz.func76, Tryz.ntmps76
  go_wp2_with (go_at_call 112; refine (bD.out _ ((lr.out.alloc _).alloc _) ((nj.out.alloc _).alloc _)).mono ?_; rintro e w1 ⟨rfl, rfl⟩)
  go_ret
  exact ⟨tF hv.out, by (repeat first | with_reducible exact Below.refl _ _ | with_reducible refine dC ?_ _)⟩
end Go.Proofs.YtbcecodakfejaaaGreat
namespace Go.Proofs.YtbcecodakfejaaaGreat
open Go.RowKit
theorem GS {a b : Int} : (cD a b ≥ 0) ↔ b ≤ a := by
 unfold cD
 repeat' split
 all_goals omega
theorem adL (x : Bool) (A B : Option Addr) (l c cw c' : Nat) (n m : Int) (w : World) (h : eh w x A l c n) (k : eh w x B cw c' m) (hl : l ≤ 900) (e0 : cw ≤ 900) :
  Calls ag 71 #[.agg #[.bool x, .slice A l c], .agg #[.bool x, .slice B cw c']] w (p0 (n + m) w) := by
 obtain ⟨ds, ey, hS⟩ := h;obtain ⟨es, fp, cy⟩ := k;have hv : Hid (hx x (bI ds + bI es) = n + m) := by unfold Hid; rw [hS.val, cy.val]; cases x <;> simp [hx]; omega
 have aU := Lib.hid (fun w h1 h2 => aeo A B l c cw c' ds es w h1 h2 hS.dg cy.dg hl e0);have nj := Lib.hid (((ey.alloc (.cells #[.bool x, .slice A l c] 85)).alloc (.cells #[.bool x, .slice B cw c'] 85)).alloc (.cells #[.bool false, .slice none 0 0] 85));have lr := Lib.hid (((fp.alloc (.cells #[.bool x, .slice A l c] 85)).alloc (.cells #[.bool x, .slice B cw c'] 85)).alloc (.cells #[.bool false, .slice none 0 0] 85));clear ey fp hS cy;have et : ¬ (w.heap.size + 1 + 1 = w.heap.size) := by omega
 go_enter Tryz.func71, Tryz.ntmps71
 go_wp2_with fail
 go_region_held3 (fun w' => w'.cell? ⟨w.heap.size, 0, none⟩ = some (.bool x) ∧ w'.cell? ⟨w.heap.size, 1, none⟩ = some (.slice A l c) ∧ w'.cell? ⟨w.heap.size + 1, 1, none⟩ = some (.slice B cw c')) (go_keep)
  (first
   | (go_at_call 111; ((with_reducible refine (aU.out _ (nj.out.call ((Below.refl _ _).drew)) (lr.out.call ((Below.refl _ _).drew))).mono ?_); rintro e w1 ⟨gV, l1, c1, os, rfl, qk, yi, pj, L7, c9, hF⟩; have Km := Below.cell c9 (p := ⟨w.heap.size, 0, none⟩) (by (simp; omega)); have Lp := Below.frozen c9 (p := ⟨w.heap.size, 0, none⟩) (by (simp; omega)); have Kn := Below.cell c9 (p := ⟨w.heap.size, 1, none⟩) (by (simp; omega)); have Lq := Below.frozen c9 (p := ⟨w.heap.size, 1, none⟩) (by (simp; omega)); have Ko := Below.cell c9 (p := ⟨w.heap.size + 1, 0, none⟩) (by (simp; done)); have Lr := Below.frozen c9 (p := ⟨w.heap.size + 1, 0, none⟩) (by (simp; done)); have Kp := Below.cell c9 (p := ⟨w.heap.size + 1, 1, none⟩) (by (simp; done)); have Ls := Below.frozen c9 (p := ⟨w.heap.size + 1, 1, none⟩) (by (simp; done)); have Kq := Below.cell c9 (p := ⟨w.heap.size + 1 + 1, 0, none⟩) (by (simp; done)); have Lt := Below.frozen c9 (p := ⟨w.heap.size + 1 + 1, 0, none⟩) (by (simp; done)); have Kr := Below.cell c9 (p := ⟨w.heap.size + 1 + 1, 1, none⟩) (by (simp; done)); have Lu := Below.frozen c9 (p := ⟨w.heap.size + 1 + 1, 1, none⟩) (by (simp; done)); have yY := Below.size c9; (try simp at yY); have Oo : ¬ w1.heap.size = w.heap.size := (by omega); have Oq : ¬ w1.heap.size = w.heap.size + 1 := (by omega); have Ot : ¬ w1.heap.size = w.heap.size + 1 + 1 := (by omega); replace pj := Lib.hid pj))
   | (go_at_call 110; ((with_reducible refine (zZ _ _ _ _ os _ qk yi (by omega)).mono ?_); rintro e w2 ⟨cp, l2, rfl, h2, da⟩; rw [pj.out, hv.out] at h2; have Ks := Below.cell da (p := ⟨w.heap.size, 0, none⟩) (by (simp; omega)); have Lv := Below.frozen da (p := ⟨w.heap.size, 0, none⟩) (by (simp; omega)); have Kt := Below.cell da (p := ⟨w.heap.size, 1, none⟩) (by (simp; omega)); have Lw := Below.frozen da (p := ⟨w.heap.size, 1, none⟩) (by (simp; omega)); have Ku := Below.cell da (p := ⟨w.heap.size + 1, 0, none⟩) (by (simp; omega)); have Lx := Below.frozen da (p := ⟨w.heap.size + 1, 0, none⟩) (by (simp; omega)); have Kv := Below.cell da (p := ⟨w.heap.size + 1, 1, none⟩) (by (simp; omega)); have Ly := Below.frozen da (p := ⟨w.heap.size + 1, 1, none⟩) (by (simp; omega)); have Kw := Below.cell da (p := ⟨w.heap.size + 1 + 1, 0, none⟩) (by (simp; omega)); have LA := Below.frozen da (p := ⟨w.heap.size + 1 + 1, 0, none⟩) (by (simp; omega)); have Kx := Below.cell da (p := ⟨w.heap.size + 1 + 1, 1, none⟩) (by (simp; omega)); have LB := Below.frozen da (p := ⟨w.heap.size + 1 + 1, 1, none⟩) (by (simp; omega)); have yZ := Below.size da; (try simp at yZ); have Ou : ¬ w2.heap.size = w.heap.size := (by omega); have Ov : ¬ w2.heap.size = w.heap.size + 1 := (by omega); have Ow : ¬ w2.heap.size = w.heap.size + 1 + 1 := (by omega))))
 go_wp2_with fail
 refine bodyPost_ret (v := .agg #[.bool cp, .slice gV l2 c1]) (by simp only [results, Tryz.results71]; go_simp) rfl ⟨_, _, _, _, rfl, ?_, ?_, fun a e => h8 (by simp; omega) (hF a e)⟩
 ·(repeat first | with_reducible assumption | with_reducible refine eh.put ?_ ?_ | focus ((with_reducible refine ga.new ?_); simp; done) | with_reducible refine ga.drew ?_ | with_reducible refine ga.call ?_ da | with_reducible refine ga.call ?_ c9)
 ·(repeat first | with_reducible exact Below.refl _ _ | with_reducible refine dC ?_ _ | focus ((with_reducible refine gZ ?_ _ _ _ ?_); rotate_left; omega) | with_reducible refine Below.drew ?_ | with_reducible refine eR ?_ da | with_reducible refine eR ?_ c9)
theorem adJ (x y : Bool) (A B : Option Addr) (l c cw c' : Nat) (n m : Int) (w : World) (h : eh w x A l c n) (k : eh w y B cw c' m) (hl : l ≤ 900) (e0 : cw ≤ 900) (h0 : (x == y) = false) (hle : m.natAbs ≤ n.natAbs) :
  Calls ag 71 #[.agg #[.bool x, .slice A l c], .agg #[.bool y, .slice B cw c']] w (p0 (n + m) w) := by
 obtain ⟨ds, ey, hS⟩ := h;obtain ⟨es, fp, cy⟩ := k
 replace hle : bI es ≤ bI ds := by have := hS.abs; have := cy.abs; omega
 have hv : Hid (hx x (bI ds - bI es) = n + m) := by unfold Hid; rw [hS.val, cy.val]; cases x <;> cases y <;> simp [hx] at h0 ⊢ <;> omega
 have ni := Lib.hid (fun w h1 h2 => Dv A B l c cw c' ds es w h1 h2 hS.dg cy.dg (by omega) (by omega));have aU := Lib.hid (fun w h1 h2 => QC A B l c cw c' ds es w h1 h2 hS.dg cy.dg hl e0 (by omega));have lV := GS (a := bI ds) (b := bI es);have nj := Lib.hid (((ey.alloc (.cells #[.bool x, .slice A l c] 85)).alloc (.cells #[.bool y, .slice B cw c'] 85)).alloc (.cells #[.bool false, .slice none 0 0] 85));have lr := Lib.hid (((fp.alloc (.cells #[.bool x, .slice A l c] 85)).alloc (.cells #[.bool y, .slice B cw c'] 85)).alloc (.cells #[.bool false, .slice none 0 0] 85));have et : ¬ (w.heap.size + 1 + 1 = w.heap.size) := by omega
 have qD : ¬ (w.heap.size + 1 = w.heap.size) := by omega
 have iZ : 0 ≤ cD (bI ds) (bI es) := by omega
 clear ey fp hS cy lV hle;generalize cD (bI ds) (bI es) = YR at *
 go_enter Tryz.func71, Tryz.ntmps71
 go_wp2_with (go_at_call 112; ((with_reducible refine (ni.out _ nj.out lr.out).mono ?_); rintro e af9 ⟨rfl, rfl⟩))
 go_region_held3 (fun w' => w'.cell? ⟨w.heap.size, 0, none⟩ = some (.bool x) ∧ w'.cell? ⟨w.heap.size, 1, none⟩ = some (.slice A l c) ∧ w'.cell? ⟨w.heap.size + 1, 1, none⟩ = some (.slice B cw c')) (go_keep)
  (first
   | (go_at_call 113; ((with_reducible refine (aU.out _ (nj.out.call ((Below.refl _ _).drew)) (lr.out.call ((Below.refl _ _).drew))).mono ?_); rintro e w1 ⟨gV, l1, c1, os, rfl, qk, yi, pj, L7, c9, hF⟩; have Km := Below.cell c9 (p := ⟨w.heap.size, 0, none⟩) (by (simp; omega)); have Lp := Below.frozen c9 (p := ⟨w.heap.size, 0, none⟩) (by (simp; omega)); have Kn := Below.cell c9 (p := ⟨w.heap.size, 1, none⟩) (by (simp; omega)); have Lq := Below.frozen c9 (p := ⟨w.heap.size, 1, none⟩) (by (simp; omega)); have Ko := Below.cell c9 (p := ⟨w.heap.size + 1, 0, none⟩) (by (simp; done)); have Lr := Below.frozen c9 (p := ⟨w.heap.size + 1, 0, none⟩) (by (simp; done)); have Kp := Below.cell c9 (p := ⟨w.heap.size + 1, 1, none⟩) (by (simp; done)); have Ls := Below.frozen c9 (p := ⟨w.heap.size + 1, 1, none⟩) (by (simp; done)); have Kq := Below.cell c9 (p := ⟨w.heap.size + 1 + 1, 0, none⟩) (by (simp; done)); have Lt := Below.frozen c9 (p := ⟨w.heap.size + 1 + 1, 0, none⟩) (by (simp; done)); have Kr := Below.cell c9 (p := ⟨w.heap.size + 1 + 1, 1, none⟩) (by (simp; done)); have Lu := Below.frozen c9 (p := ⟨w.heap.size + 1 + 1, 1, none⟩) (by (simp; done)); have yY := Below.size c9; (try simp at yY); have Oo : ¬ w1.heap.size = w.heap.size := (by omega); have Oq : ¬ w1.heap.size = w.heap.size + 1 := (by omega); have Ot : ¬ w1.heap.size = w.heap.size + 1 + 1 := (by omega); replace pj := Lib.hid pj))
   | (go_at_call 110; ((with_reducible refine (zZ _ _ _ _ os _ qk yi (by omega)).mono ?_); rintro e w2 ⟨cp, l2, rfl, h2, da⟩; rw [pj.out, hv.out] at h2; have Ks := Below.cell da (p := ⟨w.heap.size, 0, none⟩) (by (simp; omega)); have Lv := Below.frozen da (p := ⟨w.heap.size, 0, none⟩) (by (simp; omega)); have Kt := Below.cell da (p := ⟨w.heap.size, 1, none⟩) (by (simp; omega)); have Lw := Below.frozen da (p := ⟨w.heap.size, 1, none⟩) (by (simp; omega)); have Ku := Below.cell da (p := ⟨w.heap.size + 1, 0, none⟩) (by (simp; omega)); have Lx := Below.frozen da (p := ⟨w.heap.size + 1, 0, none⟩) (by (simp; omega)); have Kv := Below.cell da (p := ⟨w.heap.size + 1, 1, none⟩) (by (simp; omega)); have Ly := Below.frozen da (p := ⟨w.heap.size + 1, 1, none⟩) (by (simp; omega)); have Kw := Below.cell da (p := ⟨w.heap.size + 1 + 1, 0, none⟩) (by (simp; omega)); have LA := Below.frozen da (p := ⟨w.heap.size + 1 + 1, 0, none⟩) (by (simp; omega)); have Kx := Below.cell da (p := ⟨w.heap.size + 1 + 1, 1, none⟩) (by (simp; omega)); have LB := Below.frozen da (p := ⟨w.heap.size + 1 + 1, 1, none⟩) (by (simp; omega)); have yZ := Below.size da; (try simp at yZ); have Ou : ¬ w2.heap.size = w.heap.size := (by omega); have Ov : ¬ w2.heap.size = w.heap.size + 1 := (by omega); have Ow : ¬ w2.heap.size = w.heap.size + 1 + 1 := (by omega))))
 go_wp2_with fail
 refine bodyPost_ret (v := .agg #[.bool cp, .slice gV l2 c1]) (by simp only [results, Tryz.results71]; go_simp) rfl ⟨_, _, _, _, rfl, ?_, ?_, fun a e => h8 (by simp; omega) (hF a e)⟩
 ·(repeat first | with_reducible assumption | with_reducible refine eh.put ?_ ?_ | focus ((with_reducible refine ga.new ?_); simp; done) | with_reducible refine ga.drew ?_ | with_reducible refine ga.call ?_ da | with_reducible refine ga.call ?_ c9)
 ·(repeat first | with_reducible exact Below.refl _ _ | with_reducible refine dC ?_ _ | focus ((with_reducible refine gZ ?_ _ _ _ ?_); rotate_left; omega) | with_reducible refine Below.drew ?_ | with_reducible refine eR ?_ da | with_reducible refine eR ?_ c9)
theorem adK (x y : Bool) (A B : Option Addr) (l c cw c' : Nat) (n m : Int) (w : World) (h : eh w x A l c n) (k : eh w y B cw c' m) (hl : l ≤ 900) (e0 : cw ≤ 900) (h0 : (x == y) = false) (hle : n.natAbs < m.natAbs) :
  Calls ag 71 #[.agg #[.bool x, .slice A l c], .agg #[.bool y, .slice B cw c']] w (p0 (n + m) w) := by
 obtain ⟨ds, ey, hS⟩ := h;obtain ⟨es, fp, cy⟩ := k
 replace hle : bI ds < bI es := by have := hS.abs; have := cy.abs; omega
 have hv : Hid (hx y (bI es - bI ds) = n + m) := by unfold Hid; rw [hS.val, cy.val]; cases x <;> cases y <;> simp [hx] at h0 ⊢ <;> omega
 have ni := Lib.hid (fun w h1 h2 => Dv A B l c cw c' ds es w h1 h2 hS.dg cy.dg (by omega) (by omega));have aU := Lib.hid (fun w h1 h2 => QC B A cw c' l c es ds w h2 h1 cy.dg hS.dg e0 hl (by omega));have lV := GS (a := bI ds) (b := bI es);have nj := Lib.hid (((ey.alloc (.cells #[.bool x, .slice A l c] 85)).alloc (.cells #[.bool y, .slice B cw c'] 85)).alloc (.cells #[.bool false, .slice none 0 0] 85));have lr := Lib.hid (((fp.alloc (.cells #[.bool x, .slice A l c] 85)).alloc (.cells #[.bool y, .slice B cw c'] 85)).alloc (.cells #[.bool false, .slice none 0 0] 85));have et : ¬ (w.heap.size + 1 + 1 = w.heap.size) := by omega
 have qD : ¬ (w.heap.size + 1 = w.heap.size) := by omega
 have iZ : cD (bI ds) (bI es) < 0 := by omega
 clear ey fp hS cy lV hle;generalize cD (bI ds) (bI es) = YR at *
 go_enter Tryz.func71, Tryz.ntmps71
 go_wp2_with (go_at_call 112; ((with_reducible refine (ni.out _ nj.out lr.out).mono ?_); rintro e af9 ⟨rfl, rfl⟩))
 go_region_held3 (fun w' => w'.cell? ⟨w.heap.size + 1, 0, none⟩ = some (.bool y) ∧ w'.cell? ⟨w.heap.size, 1, none⟩ = some (.slice A l c) ∧ w'.cell? ⟨w.heap.size + 1, 1, none⟩ = some (.slice B cw c')) (go_keep)
  (first
   | (go_at_call 113; ((with_reducible refine (aU.out _ (nj.out.call ((Below.refl _ _).drew)) (lr.out.call ((Below.refl _ _).drew))).mono ?_); rintro e w1 ⟨gV, l1, c1, os, rfl, qk, yi, pj, L7, c9, hF⟩; have Km := Below.cell c9 (p := ⟨w.heap.size, 0, none⟩) (by (simp; omega)); have Lp := Below.frozen c9 (p := ⟨w.heap.size, 0, none⟩) (by (simp; omega)); have Kn := Below.cell c9 (p := ⟨w.heap.size, 1, none⟩) (by (simp; omega)); have Lq := Below.frozen c9 (p := ⟨w.heap.size, 1, none⟩) (by (simp; omega)); have Ko := Below.cell c9 (p := ⟨w.heap.size + 1, 0, none⟩) (by (simp; done)); have Lr := Below.frozen c9 (p := ⟨w.heap.size + 1, 0, none⟩) (by (simp; done)); have Kp := Below.cell c9 (p := ⟨w.heap.size + 1, 1, none⟩) (by (simp; done)); have Ls := Below.frozen c9 (p := ⟨w.heap.size + 1, 1, none⟩) (by (simp; done)); have Kq := Below.cell c9 (p := ⟨w.heap.size + 1 + 1, 0, none⟩) (by (simp; done)); have Lt := Below.frozen c9 (p := ⟨w.heap.size + 1 + 1, 0, none⟩) (by (simp; done)); have Kr := Below.cell c9 (p := ⟨w.heap.size + 1 + 1, 1, none⟩) (by (simp; done)); have Lu := Below.frozen c9 (p := ⟨w.heap.size + 1 + 1, 1, none⟩) (by (simp; done)); have yY := Below.size c9; (try simp at yY); have Oo : ¬ w1.heap.size = w.heap.size := (by omega); have Oq : ¬ w1.heap.size = w.heap.size + 1 := (by omega); have Ot : ¬ w1.heap.size = w.heap.size + 1 + 1 := (by omega); replace pj := Lib.hid pj))
   | (go_at_call 110; ((with_reducible refine (zZ _ _ _ _ os _ qk yi (by omega)).mono ?_); rintro e w2 ⟨cp, l2, rfl, h2, da⟩; rw [pj.out, hv.out] at h2; have Ks := Below.cell da (p := ⟨w.heap.size, 0, none⟩) (by (simp; omega)); have Lv := Below.frozen da (p := ⟨w.heap.size, 0, none⟩) (by (simp; omega)); have Kt := Below.cell da (p := ⟨w.heap.size, 1, none⟩) (by (simp; omega)); have Lw := Below.frozen da (p := ⟨w.heap.size, 1, none⟩) (by (simp; omega)); have Ku := Below.cell da (p := ⟨w.heap.size + 1, 0, none⟩) (by (simp; omega)); have Lx := Below.frozen da (p := ⟨w.heap.size + 1, 0, none⟩) (by (simp; omega)); have Kv := Below.cell da (p := ⟨w.heap.size + 1, 1, none⟩) (by (simp; omega)); have Ly := Below.frozen da (p := ⟨w.heap.size + 1, 1, none⟩) (by (simp; omega)); have Kw := Below.cell da (p := ⟨w.heap.size + 1 + 1, 0, none⟩) (by (simp; omega)); have LA := Below.frozen da (p := ⟨w.heap.size + 1 + 1, 0, none⟩) (by (simp; omega)); have Kx := Below.cell da (p := ⟨w.heap.size + 1 + 1, 1, none⟩) (by (simp; omega)); have LB := Below.frozen da (p := ⟨w.heap.size + 1 + 1, 1, none⟩) (by (simp; omega)); have yZ := Below.size da; (try simp at yZ); have Ou : ¬ w2.heap.size = w.heap.size := (by omega); have Ov : ¬ w2.heap.size = w.heap.size + 1 := (by omega); have Ow : ¬ w2.heap.size = w.heap.size + 1 + 1 := (by omega))))
 go_wp2_with fail
 refine bodyPost_ret (v := .agg #[.bool cp, .slice gV l2 c1]) (by simp only [results, Tryz.results71]; go_simp) rfl ⟨_, _, _, _, rfl, ?_, ?_, fun a e => h8 (by simp; omega) (hF a e)⟩
 ·(repeat first | with_reducible assumption | with_reducible refine eh.put ?_ ?_ | focus ((with_reducible refine ga.new ?_); simp; done) | with_reducible refine ga.drew ?_ | with_reducible refine ga.call ?_ da | with_reducible refine ga.call ?_ c9)
 ·(repeat first | with_reducible exact Below.refl _ _ | with_reducible refine dC ?_ _ | focus ((with_reducible refine gZ ?_ _ _ _ ?_); rotate_left; omega) | with_reducible refine Below.drew ?_ | with_reducible refine eR ?_ da | with_reducible refine eR ?_ c9)
theorem Qo (x y : Bool) (A B : Option Addr) (l c cw c' : Nat) (n m : Int) (w : World) (h : eh w x A l c n) (k : eh w y B cw c' m) (hl : l ≤ 900) (e0 : cw ≤ 900) :
  Calls ag 71 #[.agg #[.bool x, .slice A l c], .agg #[.bool y, .slice B cw c']] w (p0 (n + m) w) := by
 by_cases e : x = y
 ·subst e;exact adL x A B l c cw c' n m w h k hl e0
 ·have h0 : (x == y) = false := by simpa using e
  rcases hM n.natAbs m.natAbs with q | q
  ·exact adK x y A B l c cw c' n m w h k hl e0 h0 q
  ·exact adJ x y A B l c cw c' n m w h k hl e0 h0 q
end Go.Proofs.YtbcecodakfejaaaGreat
namespace Go.Proofs.YtbcecodakfejaaaGreat
open Go.RowKit
theorem VJ {os : List Int} (h : dv os) {y : Int} (ai : 0 ≤ y) : (10000 : Int) ^ os.length * y ≤ gu os y := by
 induction os with
 | nil => simp [gu]
 | cons d ds bO =>
  have h1 := h.head;have h2 := bO h.tail;rw [jZ, nb, gu, gR (10000 ^ ds.length) 10000, jl];omega
structure qZ (w wr : World) (x : Bool) (N : Nat) (v : Value) (k : Nat) (os : List Int) (z : Nat) : Prop where
 fN : cM wr w.heap.size (.bool false) (.slice none 0 0)
 b1 : cM wr (w.heap.size + 1) (.bool x) v
 own : wr.ownsRow (w.heap.size + 2) 3 1 v k (os.map (Value.int .i64))
 len : os.length = k
 dg : dv os
 val : gu os z = N
 uZ : z = 0 → pY os
 below : Below w.heap.size w wr
theorem qZ.short {w wr : World} {x : Bool} {N : Nat} {v : Value} {k : Nat} {os : List Int} {z : Nat} (h : qZ w wr x N v k os z) (eC : N < 100000000000000000000) (aI : 0 < z) : k < 5 := by
 rcases hM k 5 with q | q
 ·exact q
 ·exfalso;have h1 := VJ h.dg (y := z) (by omega);rw [h.val, h.len] at h1;have h2 : (10000 : Int) ^ 5 ≤ 10000 ^ k := PZ q;have h3 : (10000 : Int) ^ k * 1 ≤ 10000 ^ k * z := pJ (by omega) (kt (P0 k));have aE : (10000 : Int) ^ 5 = 100000000000000000000 := by decide
  omega
theorem OX {w wr w1 : World} {x : Bool} {N : Nat} {v v' : Value} {k : Nat} {os : List Int} {z : Nat} {o : Obj} (h : qZ w wr x N v k os z) (aI : 0 < z)
  (cB : w1.ownsRow (w.heap.size + 2) 3 1 v' (k + 1) (os.map (Value.int .i64) ++ [.int .i64 ((z % 10000 : Nat) : Int)])) (ao : (wr.alloc o).grownBy w1 v.ownBlock) :
  cM w1 (w.heap.size + 1) (.bool x) v ∧ qZ w (w1.setCell ⟨w.heap.size + 1, 1, none⟩ v') x N v' (k + 1) (os ++ [((z % 10000 : Nat) : Int)]) (z / 10000) := by
 have Mh := h.fN.lt;have c9 := h.b1.lt;have bX : ∀ j, j < w.heap.size + 2 → some j ≠ v.ownBlock := fun j ae e => by have := h.own.lt j e.symm; omega
 have ND : ∀ (b : Nat) (u nU : Value), b < w.heap.size + 2 → cM wr b u nU → cM w1 b u nU := fun b u nU ab eG => by
  have a8 := eG.lt;obtain ⟨⟨c1, c2⟩, f1, f2⟩ := eG;have k4 := ao.block b (by simp; omega) (bX b ab);refine ⟨⟨?_, ?_⟩, ?_, ?_⟩
  ·rw [World.cell?_of_block (w := wr.alloc o) (a := ⟨b, 0, none⟩) k4, World.cell?_alloc_lt _ _ _ (by omega)]; exact c1
  ·rw [World.cell?_of_block (w := wr.alloc o) (a := ⟨b, 1, none⟩) k4, World.cell?_alloc_lt _ _ _ (by omega)]; exact c2
  ·rw [World.frozen?_of_block (w := wr.alloc o) (a := ⟨b, 0, none⟩) k4, World.frozen?_alloc_past _ _ _ (by omega)]; exact f1
  ·rw [World.frozen?_of_block (w := wr.alloc o) (a := ⟨b, 1, none⟩) k4, World.frozen?_alloc_past _ _ _ (by omega)]; exact f2
 have bd := ND _ _ _ (by omega) h.b1;refine ⟨bd, ⟨(ND _ _ _ (by omega) h.fN).set _ (by omega), ?_, ?_, by rw [cx, h.len]; rfl, h.dg.snoc (by omega) (by omega), ?_, fun q => ?_, ?_⟩⟩
 ·obtain ⟨⟨c1, c2⟩, f1, f2⟩ := bd;refine ⟨⟨?_, World.cell?_setCell_same _ _ _ c2⟩, ?_, ?_⟩
  ·rw [World.cell?_setCell_other _ _ _ _ (by simp)]; exact c1
  ·go_simp
  ·go_simp
 ·rw [List.map_append]; exact ownsRow_setCell_below cB (by simp) _
 ·rw [vO, ← h.val]; congr 1; omega
 ·intro hp;rw [cx];simp;omega
 ·refine (((h.below.alloc h.below.size o).grown ao (by have := h.below.size; simp; omega) (fun j ae => by have := (h.own.lt j ae).1; omega))).setCell (by simp) _
theorem abr {x : Bool} {N : Nat} {os : List Int} (hd : dv os) (hv : gu os 0 = N) (au : pY os) {n : Int} (aa : n = hx x N) (hs : x = true → 0 < N) : Std x os n := by
 refine ⟨hd, au, fun q e => ?_, by rw [aa]; unfold bI; rw [hv]⟩;have := hs q;rw [e] at hv;simp [gu] at hv;omega
theorem OW {w wr : World} {x : Bool} {N : Nat} {v : Value} {k : Nat} {os : List Int} {z : Nat} (h : qZ w wr x N v k os z) (aI : z = 0) {n : Int} (aa : n = hx x N) (hs : x = true → 0 < N) :
  ∃ A c, v = .slice A k c ∧ eh wr x A k c n ∧ Fr (w.heap.size + 2) A := by
 obtain ⟨A, c, rfl, ey⟩ := e3.own h.own;have hF := Fr.own h.own;have hv := h.val;have au := h.uZ aI;rw [aI] at hv;exact ⟨A, c, rfl, ⟨os, ey, abr h.dg hv au aa hs⟩, hF⟩
end Go.Proofs.YtbcecodakfejaaaGreat
namespace Go.Proofs.YtbcecodakfejaaaGreat
open Go.RowKit
theorem OY (w : World) (x : Bool) (n : Nat) : qZ w ((w.alloc (.cells #[.bool false, .slice none 0 0] 85)).alloc (.cells #[.bool x, .slice none 0 0] 85)) x n (.slice none 0 0) 0 [] n :=
 ⟨(cM.new rfl).alloc _, cM.new (by simp), World.ownsRow_nil _ _ _ _, rfl, dv.nil, rfl, fun _ => aa7, by (repeat first | with_reducible exact Below.refl _ _ | with_reducible refine dC ?_ _)⟩
theorem abq (n : Nat) (w : World) (h : n < 9223372036854775808) : Calls ag 66 #[.int .i64 n] w (p0 n w) := by
 obtain ⟨i0, mK, jW, mS, jX⟩ := info_parts y2;have oV := Lib.hid mK;have iZ := Lib.hid jW;have n0 := Lib.hid mS;have oW := Lib.hid jX;clear mK jW mS jX;have ST := Lib.hid (OY w false n);have hd : decide ((n : Int) < 0) = false := cC (by omega)
 go_enter Tryz.func66, Tryz.ntmps66
 go_wp2
 go_loopw [0] (fun i wr => ∃ (z k : Nat) (v : Value) (os : List Int), i = .int .i64 z ∧ z ≤ n ∧ qZ w wr false n v k os z) (fun i _ => (intOf i).toNat)
 case atStart => exact ⟨n, 0, _, [], rfl, dl _, ST.out⟩
 case round =>
  obtain ⟨z, k, v, os, rfl, YP, al⟩ := hrel;obtain ⟨⟨c1, c2⟩, f1, f2⟩ := id al.b1;obtain ⟨⟨iH, qb⟩, f3, f4⟩ := id al.fN;have iC := Lib.hid al.own;have lu := Lib.hid al;have bB := al.b1.lt
  by_cases aI : z = 0
  ·obtain ⟨A, c, rfl, eC, hF⟩ := OW al aI (n := n) rfl (fun h => by cases h);have tQ := Lib.hid al.below;have D2 := Lib.hid al.fN;subst aI;clear al
   go_wp2
   refine bodyPost_ret (v := .agg #[.bool false, .slice A k c]) (by simp only [results, Tryz.results66]; go_simp) rfl ⟨_, _, _, _, rfl, ?_, ?_, fun a e => h8 (by omega) (hF a e)⟩
   ·exact eC.put (ga.of D2.out)
   ·exact gZ (gZ tQ.out _ _ _ (by omega)) _ _ _ (by omega)
  ·have jW : 0 < z := by omega
   have XU := al.short (by omega) jW;have bX : ((z : Int) != 0) = true := by simpa using aI
   have N := Lib.hid (fun (w1 : World) (v' : Value) (o : Obj) cB ao => OX (w1 := w1) (v' := v') (o := o) lu.out jW cB ao);clear al aI
   go_wp2_with (at_builtin; refine wpList_append_own _ rfl _ _ 32 rfl (w.heap.size + 2) 3 i0 (.int .i64 0) 1 8 Tryz.underlying32 oV.out iZ.out n0.out oW.out rfl (by decide) _ _ _ rfl (iC.out.alloc _) ⟨wr.heap.size, 0, none⟩ 1 1 [.int .i64 ((z % 10000 : Nat) : Int)] rfl rfl (cell_one_new _ _ _) (by simp [Value.oneCell']) (by simp only [maxLen]; omega) (by omega) (by simp; omega) ?_; intro v' w1 k8 k6 pp; clear pp; have R := N.out w1 v' _ k8 k6; clear k8 k6 c1 c2 f1 f2 iH qb f3 f4; obtain ⟨⟨⟨c1, c2⟩, f1, f2⟩, R⟩ := R; obtain ⟨dH, c', rfl, vZ⟩ := e3.own R.own; clear vZ; replace R := Lib.hid R)
   refine ⟨⟨z / 10000, k + 1, _, _, by go_num, by omega, R.out⟩, ?_⟩;simp [intOf]; omega
theorem neg_tmod (y : Nat) : (-(y : Int)).tmod 10000 = -((y : Int) % 10000) := by rw [Int.neg_tmod, Int.tmod_eq_emod_of_nonneg (by omega)]
theorem neg_tdiv (y : Nat) : (-(y : Int)).tdiv 10000 = -((y : Int) / 10000) := by rw [Int.neg_tdiv, Int.tdiv_eq_ediv_of_nonneg (by omega)]
theorem abp (n : Nat) (w : World) (h : n ≤ 9223372036854775808) (aA : 0 < n) : Calls ag 66 #[.int .i64 (-(n : Int))] w (p0 (-(n : Int)) w) := by
 obtain ⟨i0, mK, jW, mS, jX⟩ := info_parts y2;have oV := Lib.hid mK;have iZ := Lib.hid jW;have n0 := Lib.hid mS;have oW := Lib.hid jX;clear mK jW mS jX;have ST := Lib.hid (OY w true n);have hd : decide (-(n : Int) < 0) = true := ck (by omega)
 go_enter Tryz.func66, Tryz.ntmps66
 go_wp2
 go_loopw [0] (fun i wr => ∃ (z k : Nat) (v : Value) (os : List Int), i = .int .i64 (-(z : Int)) ∧ z ≤ n ∧ qZ w wr true n v k os z) (fun i _ => (-intOf i).toNat)
 case atStart => exact ⟨n, 0, _, [], rfl, dl _, ST.out⟩
 case round =>
  obtain ⟨z, k, v, os, rfl, YP, al⟩ := hrel;obtain ⟨⟨c1, c2⟩, f1, f2⟩ := id al.b1;obtain ⟨⟨iH, qb⟩, f3, f4⟩ := id al.fN;have iC := Lib.hid al.own;have lu := Lib.hid al;have bB := al.b1.lt
  by_cases aI : z = 0
  ·obtain ⟨A, c, rfl, eC, hF⟩ := OW al aI (n := -(n : Int)) rfl (fun _ => aA);have tQ := Lib.hid al.below;have D2 := Lib.hid al.fN;subst aI;clear al;rw [show (-(((0 : Nat)) : Int)) = 0 from rfl]
   go_wp2
   refine bodyPost_ret (v := .agg #[.bool true, .slice A k c]) (by simp only [results, Tryz.results66]; go_simp) rfl ⟨_, _, _, _, rfl, ?_, ?_, fun a e => h8 (by omega) (hF a e)⟩
   ·exact eC.put (ga.of D2.out)
   ·exact gZ (gZ tQ.out _ _ _ (by omega)) _ _ _ (by omega)
  ·have jW : 0 < z := by omega
   have XU := al.short (by omega) jW;have bX : (-(z : Int) != 0) = true := by simpa using aI
   have N := Lib.hid (fun (w1 : World) (v' : Value) (o : Obj) cB ao => OX (w1 := w1) (v' := v') (o := o) lu.out jW cB ao);have t1 := neg_tmod z;have t2 := neg_tdiv z;clear al aI
   by_cases hm : (z : Int) % 10000 = 0
   ·have Mz : z % 10000 = 0 := by omega
    replace N : Hid (∀ (w1 : World) (v' : Value) (o : Obj), w1.ownsRow (w.heap.size + 2) 3 1 v' (k + 1) (os.map (Value.int .i64) ++ [.int .i64 0]) → (wr.alloc o).grownBy w1 v.ownBlock → cM w1 (w.heap.size + 1) (.bool true) v ∧ qZ w (w1.setCell ⟨w.heap.size + 1, 1, none⟩ v') true n v' (k + 1) (os ++ [0]) (z / 10000)) := by
     intro w1 v' o h1 h2;have := N.out w1 v' o;rw [Mz] at this;exact this h1 h2
    rw [hm] at t1;rw [show (-(0 : Int)) = 0 from rfl] at t1;clear hm Mz
    go_wp2_with (at_builtin; refine wpList_append_own _ rfl _ _ 32 rfl (w.heap.size + 2) 3 i0 (.int .i64 0) 1 8 Tryz.underlying32 oV.out iZ.out n0.out oW.out rfl (by decide) _ _ _ rfl (iC.out.alloc _) ⟨wr.heap.size, 0, none⟩ 1 1 [.int .i64 0] rfl rfl (cell_one_new _ _ _) (by simp [Value.oneCell']) (by simp only [maxLen]; omega) (by omega) (by simp; omega) ?_; intro v' w1 k8 k6 pp; clear pp; have R := N.out w1 v' _ k8 k6; clear k8 k6 c1 c2 f1 f2 iH qb f3 f4; obtain ⟨⟨⟨c1, c2⟩, f1, f2⟩, R⟩ := R; obtain ⟨dH, c', rfl, vZ⟩ := e3.own R.own; clear vZ; replace R := Lib.hid R)
    refine ⟨⟨z / 10000, k + 1, _, _, by go_num, by omega, R.out⟩, ?_⟩;simp [intOf]; omega
   ·have fB : (0 : Int) < (z : Int) % 10000 := by omega
    clear hm
    go_wp2_with (at_builtin; refine wpList_append_own _ rfl _ _ 32 rfl (w.heap.size + 2) 3 i0 (.int .i64 0) 1 8 Tryz.underlying32 oV.out iZ.out n0.out oW.out rfl (by decide) _ _ _ rfl (iC.out.alloc _) ⟨wr.heap.size, 0, none⟩ 1 1 [.int .i64 ((z % 10000 : Nat) : Int)] rfl rfl (cell_one_new _ _ _) (by simp [Value.oneCell']) (by simp only [maxLen]; omega) (by omega) (by simp; omega) ?_; intro v' w1 k8 k6 pp; clear pp; have R := N.out w1 v' _ k8 k6; clear k8 k6 c1 c2 f1 f2 iH qb f3 f4; obtain ⟨⟨⟨c1, c2⟩, f1, f2⟩, R⟩ := R; obtain ⟨dH, c', rfl, vZ⟩ := e3.own R.own; clear vZ; replace R := Lib.hid R)
    refine ⟨⟨z / 10000, k + 1, _, _, by go_num, by omega, R.out⟩, ?_⟩;simp [intOf]; omega
theorem Qr (n : Int) (w : World) (aA : -9223372036854775808 ≤ n) (h1 : n < 9223372036854775808) : Calls ag 66 #[.int .i64 n] w (p0 n w) := by
 rcases oK n 0 with q | q
 ·obtain ⟨m, rfl⟩ : ∃ m : Nat, n = -(m : Int) := ⟨n.natAbs, by omega⟩;exact abp m w (by omega) (by omega)
 ·obtain ⟨m, rfl⟩ := lO q;exact abq m w (by omega)
end Go.Proofs.YtbcecodakfejaaaGreat
namespace Go.Proofs.YtbcecodakfejaaaGreat
open Go.RowKit
theorem PX (j : Nat) : (0 : Int) < 2 ^ j ∧ (2 : Int) ^ j < 10000 ^ (j + 1) := by
 induction j with
 | zero => decide
 | succ j bO => rw [nb, nb (10000 : Int) (j + 1)]; omega
theorem PW (j : Nat) : (((2 : Int) ^ j).natAbs : Int) < 10000 ^ (j + 1) := by have := PX j; omega
theorem adz (j : Nat) : (2 : Int) ^ j + 2 ^ j = 2 ^ (j + 1) := by rw [nb]; omega
theorem adQ (k : Nat) (w : World) (af : k ≤ 800) : Calls ag 108 #[.int .i64 k] w (p0 (2 ^ k) w) := by
 go_enter Tryz.func108, Tryz.ntmps108
 go_wp2_with fail
 refine (Qr 1 _ (by omega) (by omega)).mono ?_;rintro e w1 ⟨b8, gV, l1, c1, rfl, h1, c9, BB⟩
 replace BB : Hid (Fr w.heap.size gV) := fun a e => h8 (by simp) (BB a e)
 have bo : cM w1 w.heap.size (.bool false) (.slice none 0 0) := (cM.new rfl).call c9;have gU := Lib.hid c9.size;have UO : Below w.heap.size w w1 := eR (dC (Below.refl _ _) _) c9;clear c9
 go_wp2_with fail
 go_loopw [4] (fun i wr => ∃ (j : Nat) (x : Bool) (A : Option Addr) (l c : Nat), i = .int .i64 j ∧ j ≤ k ∧ cM wr w.heap.size (.bool false) (.slice none 0 0) ∧ cM wr w1.heap.size (.bool x) (.slice A l c) ∧ eh wr x A l c (2 ^ j) ∧ Below w.heap.size w wr ∧ Hid (Fr w.heap.size A)) (fun i _ => k - (intOf i).toNat)
 case atStart =>
  refine ⟨0, b8, gV, l1, c1, rfl, dA _, bo.alloc _, cM.new rfl, ?_, dC UO _, BB⟩;exact h1.alloc _
 case round =>
  obtain ⟨j, x, A, l, c, rfl, ae, FE, L0, eC, wg, L1⟩ := hrel;clear BB;have hl := eC.len (PW j);obtain ⟨⟨p1, p2⟩, p3, p4⟩ := id L0;obtain ⟨⟨q1, q2⟩, bE, c4⟩ := id FE;have a8 : w.heap.size < w1.heap.size := by have := gU.out; simp at this; omega
  by_cases kn : j < k
  ·go_wp2_with (go_at_call 71; ((with_reducible refine (Qo _ _ _ _ _ _ _ _ _ _ _ eC eC (by omega) (by omega)).mono ?_); rintro e w2 ⟨cp, lU, l2, c2, rfl, h2, da, FG⟩; replace FG : Hid (Fr w.heap.size lU) := (fun a e => h8 wg.size (FG a e)); clear L1; rw [adz] at h2; clear p1 p2 p3 p4 q1 q2 bE c4; have FF := L0.call da; have WR := FE.call da; obtain ⟨⟨p1, p2⟩, p3, p4⟩ := id FF))
   refine ⟨⟨j + 1, cp, lU, l2, c2, by go_num, by omega, (WR.set _ (by omega)).set _ (by omega), cM.put (tS.of FF), h2.put (ga.of FF), ?_, FG⟩, ?_⟩
   ·exact gZ (gZ (eR wg da) _ _ _ (by omega)) _ _ _ (by omega)
   ·simp [intOf]; omega
  ·obtain rfl : j = k := by omega
   go_wp2
   refine bodyPost_ret (v := .agg #[.bool x, .slice A l c]) (by simp only [results, Tryz.results108]; go_simp) rfl ⟨_, _, _, _, rfl, ?_, ?_, L1⟩
   ·exact eC.put (ga.of FE)
   ·exact gZ (gZ wg _ _ _ (by omega)) _ _ _ (by omega)
end Go.Proofs.YtbcecodakfejaaaGreat
