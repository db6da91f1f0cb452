/-
  My own texts, without what this claim does not need. My own text.
-/
import Derived.Deep.RegionHeld3
import Derived.StillTail
import Derived.Deep.QuietTactic
import Derived.OwnWalk
import Derived.Laws.OwnMore
import Derived.Maps.AppendAt
import Derived.IntWalk
import Derived.Shelf.Small.Bits
import Derived.Shelf.Strconv.Itoa0
import Derived.Shelf.Bits.Mul64
import Derived.Test.YtpochbhajmbfdaaGreatProg
import Derived.WalkKit
import Derived.Lib.ItoaNum
import Derived.Deep.DeepCutAuto
import Derived.Test.YtpochbhajmbfdaaGreatSTurnedK5
set_option maxRecDepth 100000
set_option maxHeartbeats 64000000
set_option linter.unusedVariables false
set_option linter.unusedSimpArgs false
set_option linter.unusedSectionVars false
open Go.Proofs.Tryz renaming prog → aj
namespace Go.Proofs.YtpochbhajmbfdaaGreat
open Go.RowKit
def cO (k : Nat) (cs : List AC) : Mem := bJ cm k cs
theorem h3 {k j : Nat} {cs ds : List AC} (h : cO k cs j = some ds) : j = k ∧ ds = cs := by
 unfold cO at h
 by_cases e : j = k
 ·subst e; rw [cw] at h; exact ⟨rfl, (mD h).symm⟩
 ·rw [cl _ _ e] at h; cases h
theorem gg {k j : Nat} {r q : bS} (h : bH k r j = some q) : j = k ∧ q = r := by
 unfold bH at h
 by_cases e : j = k
 ·subst e; rw [cw] at h; exact ⟨rfl, (mD h).symm⟩
 ·rw [cl _ _ e] at h; cases h
theorem wJ {α : Type} (f : Nat → Option α) (k : Nat) (x : α) : b9 (bJ (fun _ => none) k x) f = bJ f k x := by
 funext j
 by_cases e : j = k
 ·subst e; rw [cw]; exact h4 (cw _ _ _)
 ·rw [cl _ _ e]; exact hN (cl _ _ e)
theorem QJ {α : Type} (f : Nat → Option α) : b9 (fun _ => none) f = f := by funext j; exact hN rfl
def yJ (n : Nat) (args : List ai) (m : Mem) : aE := ⟨n, fun t => args[t]?, m⟩
def uw (P : Program) (fn : Func) (m0 : Mem) (R0 : aL) (Post : ai → Mem → aL → Prop) (R : aL) (s : aE) : Prop :=
 ∃ xs r aK aC, fn.results.toList.map (iZ P s) = xs.map some ∧ (packed xs).bo r ∧ Post r aK aC ∧ (∀ k cs, aK k = some cs → s.mem k = some cs) ∧ bL aC R ∧ (∀ j, r.owns j → ∃ cs, aK j = some cs) ∧ (∀ k cs x j, aK k = some cs → x ∈ cs → x.owns j → ∃ au, aK j = some au) ∧ (∀ k cs, m0 k = some cs → ∃ au, aK k = some au) ∧ ∀ i r, R0 i = some r → ∃ ba, aC i = some ba
def j7 (P : Program) (fn : Func) (m0 : Mem) (R0 : aL) (Post : ai → Mem → aL → Prop) : Exit → aL → aE → Prop
 | .normal, R, s | .ret, R, s => uw P fn m0 R0 Post R s
 | _, _, _ => False
section
variable {P : Program}
theorem dv {f : FuncId} {fn : Func} {c : Code} {args : List ai} {m0 : Mem} {R0 : aL} {Post : ai → Mem → aL → Prop} (aw : P.funcs[f]? = some fn) (ab : fn.body = some c) (aD : args.length ≤ fn.ntmps) (vU : ∀ k cs, m0 k = some cs → fn.ntmps ≤ k)
  (h : fO P c (j7 P fn m0 R0 Post) R0 (yJ fn.ntmps args m0)) : dk P f args m0 R0 Post := by
 refine ⟨fun U ad W vs cA ez dX => ?_⟩;have ap := dX.1;refine calls_of_wp aw ab ?_;have ok : (yJ fn.ntmps args m0).cU := ⟨fun t av j aF af => ez av (dL aF) j af, fun k cs x j ae aa af => cA.gb k cs x j ae aa af⟩
 let bq : e8 := ⟨W, fun b => b < W.heap.size ∧ ¬ ew ad m0 R0 b, fun _ h => h.1, fun k => match m0 k with | some _ => some (ad k) | none => none, []⟩
 have bh : ∀ b, ew ad m0 R0 b → b < W.heap.size := by
  rintro b (⟨k, cs, ae, rfl⟩ | ⟨i, r, hi, ax⟩)
  ·obtain ⟨vs, ty, h1, _⟩ := cA.dG k cs ae;exact (k4.1 h1).1
  ·exact (cA.rows i r hi).1.lt ax
 have YH : ∀ b, U b → ¬ ew ad m0 R0 b := by
  rintro b hu (⟨k, cs, ae, rfl⟩ | ⟨i, r, hi, ax⟩)
  ·obtain ⟨_, _, _, _, h⟩ := cA.dG k cs ae; exact h hu
  ·exact ((cA.rows i r hi).2.2 b ax).1 hu
 have HU : vc bq (yJ fn.ntmps args m0) ad := fun k b ae => by
  cases hm : m0 k with
  | none => simp only [bq, hm] at ae; cases ae
  | some cs => simp only [bq, hm, gE] at ae; exact ⟨vU k cs hm, ae⟩
 have j4 : ∀ b, U b → b < W.heap.size → (yJ fn.ntmps args m0).free (fun b => U b ∨ W.heap.size ≤ b) ad b ∧ W.heap[b]? = W.heap[b]? := fun b hu _ => ⟨⟨.inl hu, fun k cs ae e => YH b hu (.inl ⟨k, cs, ae, e⟩)⟩, rfl⟩
 have ay : eJ bq (fun b => U b ∨ W.heap.size ≤ b ∨ ew ad m0 R0 b) R0 (yJ fn.ntmps args m0) { tmps := vs.toArray ++ Array.replicate (fn.ntmps - vs.toArray.size) undef, defers := [] } W (fun b => U b ∨ W.heap.size ≤ b) ad := by
  refine ⟨fun b ab => .inr (.inl ab), fun b ab => ab.elim .inl fun h => .inr (.inl h), ?_, fun k cs ae aw => aw.2 (.inl ⟨k, cs, ae, rfl⟩), ⟨rfl, rfl, rfl, eb _, fun _ _ => rfl⟩, fun i r hi => ?_, cA.apart, fun i r g hi ax => ⟨fun aw => aw.2 (.inr ⟨i, r, hi, ax⟩), .inr (.inr (.inr ⟨i, r, hi, ax⟩))⟩, HU⟩
  ·refine ⟨rfl, by simp [yJ]; omega, fun t av aF => ?_, fun k cs ae => ?_, cA.inj, km.refl _, fun b ab => .inr ab, xS _ _ _⟩
   ·have DY : t < vs.length := by rw [← ap]; exact (bP.1 aF).1
    refine ⟨vs[t], by simp [Array.getElem?_append, DY], ?_⟩;exact (dX.2 t av _ aF (cj DY)).map j4 fun _ _ => rfl
   ·obtain ⟨us, ty, h1, h2, ao⟩ := cA.dG k cs ae;exact ⟨us, ty, h1, h2.map j4 fun _ _ _ _ => rfl, fun aw => aw.2 k cs ae rfl⟩
  ·obtain ⟨lU, ak, ax⟩ := cA.rows i r hi;refine ⟨lU.kept ak (fun _ _ => rfl) (eb _) j4, ak, fun g q => ⟨?_, fun k cs ae => (ax g q).2 k cs ae⟩⟩;rintro (hu | hu)
   ·exact (ax g q).1 hu
   ·have := bh g (.inr ⟨i, r, hi, q⟩); omega
 refine wp_mono (h ok bq _ _ W ⟨_, ad, ay⟩).top ?_;rintro e a' w' ⟨eZ, s', dz, ⟨dW, bg, cE⟩, an⟩
 have fin : uw P fn m0 R0 Post eZ s' → a'.defers = [] ∧ ∃ v, (results fn a'.tmps).run P w' = .ok v w' ∧ ∃ a7 r aK aC bg cK, Ending.returned v = .returned a7 ∧ Post r aK aC ∧ fe cK bg w' aK aC ∧ dn cK bg w' r a7 ∧ (∀ j, r.owns j → ∃ cs, aK j = some cs) ∧
   (∀ k cs, m0 k = some cs → bg k = ad k ∧ ∃ au, aK k = some au) ∧ (∀ i r, R0 i = some r → ∃ ba, aC i = some ba) ∧
   (∀ b, cK b → U b ∨ W.heap.size ≤ b ∨ ew ad m0 R0 b) ∧ (∀ b, ew bg aK aC b → ew ad m0 R0 b ∨ W.heap.size ≤ b) ∧ km (Is ad W m0 R0) w' := by
  rintro ⟨xs, r, aK, aC, h1, h2, ao, aH, cM, fQ, j0, qg, jh⟩;obtain ⟨v, q1, q2⟩ := RE cE.rel h1;refine ⟨cE.rel.qx, v, q1, v, r, aK, aC, bg, s'.free dW bg, rfl, ao, cE.part aH cM j0, h2 _ _ _ _ q2, fQ, fun k cs ae => ⟨(cE.ku k (ad k) (by simp [bq, ae])).2, qg k cs ae⟩, jh, fun b ab => cE.sub b ab.1, ?_, ⟨cE.below.os, cE.below.tape, cE.below.output, cE.below.size, fun b ab => cE.below.block b ab⟩⟩;rintro b (⟨k, cs, ae, rfl⟩ | ⟨i, q, hi, ax⟩)
  ·have Iq := cE.pg k cs (aH k cs ae);rcases jt (bg k) W.heap.size with mT | mT
   ·exact .inl (Classical.byContradiction fun aD => Iq ⟨mT, aD⟩)
   ·exact .inr mT
  ·have Iq := (cE.hot i q b (cM i q hi) ax).1;rcases jt b W.heap.size with mT | mT
   ·exact .inl (Classical.byContradiction fun aD => Iq ⟨mT, aD⟩)
   ·exact .inr mT
 cases e with
 | normal => exact fin an
 | ret => exact fin an
 | _ => exact an.elim
end
def AC.bc (bM : Nat → Nat) : AC → AC
 | .own k o => .own (bM k) o
 | .c v => .c v
 | .p R => .p R
def bK.bc (bM : Nat → Nat) : bK → bK
 | .one x => .one (x.bc bM)
 | .agg xs => .agg (xs.map (AC.bc bM))
def ai.bc (bM : Nat → Nat) : ai → ai
 | .w x => .w (x.bc bM)
 | .dd xs => .dd (xs.map (bK.bc bM))
def Mem.bc (bM : Nat → Nat) (m : Mem) : Mem := fun j => (m (bM j)).map fun cs => cs.map (AC.bc bM)
def aL.bc (cb : Nat → Nat) (R : aL) : aL := fun j => R (cb j)
section
variable {P : Program} {U : Nat → Prop} {ad : Nat → Nat} {W : World} {bM cb iE : Nat → Nat}
theorem gV.bc {x : AC} {v : Value} : gV U ad W (x.bc bM) v ↔ gV U (fun k => ad (bM k)) W x v := by cases x <;> exact Iff.rfl
theorem b3.bc {xs : List AC} {vs : List Value} : b3 U ad W (xs.map (AC.bc bM)) vs ↔ b3 U (fun k => ad (bM k)) W xs vs := by
 constructor
 ·rintro ⟨h1, h2⟩;refine ⟨by simpa using h1, fun i x v aa hv => gV.bc.1 (h2 i (x.bc bM) v (by rw [eG, aa]; rfl) hv)⟩
 ·rintro ⟨h1, h2⟩;refine ⟨by simpa using h1, fun i x v aa hv => ?_⟩;rw [eG] at aa;cases ag : xs[i]? with
  | none => rw [ag] at aa; cases aa
  | some y => rw [ag] at aa; cases aa; exact gV.bc.2 (h2 i y v ag hv)
theorem hh.bc {x : bK} {v : Value} : hh U ad W (x.bc bM) v ↔ hh U (fun k => ad (bM k)) W x v := by
 cases x with
 | one x => exact gV.bc
 | agg xs =>
  constructor
  ·rintro ⟨vs, e, h⟩; exact ⟨vs, e, b3.bc.1 h⟩
  ·rintro ⟨vs, e, h⟩; exact ⟨vs, e, b3.bc.2 h⟩
theorem dn.bc {x : ai} {v : Value} : dn U ad W (x.bc bM) v ↔ dn U (fun k => ad (bM k)) W x v := by
 cases x with
 | w x => exact hh.bc
 | dd xs =>
  constructor
  ·rintro ⟨vs, e, ap, h⟩;exact ⟨vs, e, by simpa using ap, fun i x v aa hv => hh.bc.1 (h i (x.bc bM) v (by rw [eG, aa]; rfl) hv)⟩
  ·rintro ⟨vs, e, ap, h⟩;refine ⟨vs, e, by simpa using ap, fun i x v aa hv => ?_⟩;rw [eG] at aa;cases ag : xs[i]? with
   | none => rw [ag] at aa; cases aa
   | some y => rw [ag] at aa; cases aa; exact hh.bc.2 (h i y v ag hv)
theorem AC.Fo {x : AC} {j : Nat} (h : (x.bc bM).owns j) : ∃ i, x.owns i ∧ j = bM i := by
 cases x with
 | own k o => exact ⟨k, rfl, h⟩
 | c v => cases h
 | p R => cases h
theorem AC.E4 {x : AC} {j : Nat} (h : x.owns j) : (x.bc bM).owns (bM j) := by
 cases x with
 | own k o => cases h; rfl
 | c v => cases h
 | p R => cases h
theorem bK.Mc (x : bK) : (x.bc bM).cells = x.cells.map (AC.bc bM) := by cases x <;> rfl
theorem ai.Fo {x : ai} {j : Nat} (h : (x.bc bM).owns j) : ∃ i, x.owns i ∧ j = bM i := by
 have key : ∀ y : bK, (y.bc bM).owns j → ∃ i, y.owns i ∧ j = bM i := by
  rintro y ⟨z, a6, af⟩;rw [bK.Mc] at a6;obtain ⟨u, hu, rfl⟩ := iW.1 a6;obtain ⟨i, h1, h2⟩ := AC.Fo af;exact ⟨i, ⟨u, hu, h1⟩, h2⟩
 cases x with
 | w x => exact key x h
 | dd xs =>
  obtain ⟨y, ag, af⟩ := h;obtain ⟨u, hu, rfl⟩ := iW.1 ag;obtain ⟨i, h1, h2⟩ := key u af;exact ⟨i, ⟨u, hu, h1⟩, h2⟩
theorem ai.E4 {x : ai} {j : Nat} (h : x.owns j) : (x.bc bM).owns (bM j) := by
 have key : ∀ y : bK, y.owns j → (y.bc bM).owns (bM j) := by
  rintro y ⟨z, a6, af⟩;exact ⟨z.bc bM, by rw [bK.Mc]; exact iW.2 ⟨z, a6, rfl⟩, AC.E4 af⟩
 cases x with
 | w x => exact key x h
 | dd xs =>
  obtain ⟨y, ag, af⟩ := h;exact ⟨y.bc bM, iW.2 ⟨y, ag, rfl⟩, key y af⟩
theorem Mem.rO {m : Mem} {j : Nat} {cs : List AC} (h : Mem.bc bM m j = some cs) : ∃ ds, m (bM j) = some ds ∧ cs = ds.map (AC.bc bM) := by
 unfold Mem.bc at h;cases hm : m (bM j) with
 | none => rw [hm] at h; cases h
 | some ds => rw [hm] at h; exact ⟨ds, rfl, (mD h).symm⟩
theorem Mem.rN (fR : ∀ j, bM (bM j) = j) {m : Mem} {k : Nat} {cs : List AC} (h : m k = some cs) : Mem.bc bM m (bM k) = some (cs.map (AC.bc bM)) := by
 unfold Mem.bc; rw [fR, h]; rfl
theorem ew.bc (fR : ∀ j, bM (bM j) = j) (ga : ∀ j, cb (iE j) = j) {m : Mem} {R : aL} {b : Nat} : ew ad (m.bc bM) (R.bc cb) b ↔ ew (fun k => ad (bM k)) m R b := by
 constructor
 ·rintro (⟨k, cs, ae, e⟩ | ⟨i, r, hi, ax⟩)
  ·obtain ⟨ds, h1, _⟩ := Mem.rO ae;exact .inl ⟨bM k, ds, h1, by simp only [fR]; exact e⟩
  ·exact .inr ⟨cb i, r, hi, ax⟩
 ·rintro (⟨k, cs, ae, e⟩ | ⟨i, r, hi, ax⟩)
  ·exact .inl ⟨bM k, _, Mem.rN fR ae, e⟩
  ·exact .inr ⟨iE i, r, by unfold aL.bc; rw [ga]; exact hi, ax⟩
theorem fe.bc (fR : ∀ j, bM (bM j) = j) (ga : ∀ j, cb (iE j) = j) (wq : ∀ j, iE (cb j) = j) {m : Mem} {R : aL} : fe U ad W (m.bc bM) (R.bc cb) ↔ fe U (fun k => ad (bM k)) W m R := by
 have OK : ∀ {a b : Nat}, bM a = bM b → a = b := fun {a b} h => by rw [← fR a, h, fR]
 have aaE : ∀ {a b : Nat}, cb a = cb b → a = b := fun {a b} h => by rw [← wq a, h, wq]
 have aaF : ∀ {a b : Nat}, iE a = iE b → a = b := fun {a b} h => by rw [← ga a, h, ga]
 constructor
 ·intro h;refine ⟨fun k cs ae => ?_, fun k cs x j ae aa af => ?_, fun k k' cs au ae en e => ?_, fun i r hi => ?_, fun i j r q hi af fI g ax => h.apart (iE i) (iE j) r q (by unfold aL.bc; rw [ga]; exact hi) (by unfold aL.bc; rw [ga]; exact af) (fun e => fI (aaF e)) g ax⟩
  ·obtain ⟨vs, ty, h1, h2, ao⟩ := h.dG (bM k) _ (Mem.rN fR ae);exact ⟨vs, ty, h1, b3.bc.1 h2, ao⟩
  ·obtain ⟨au, h1⟩ := h.gb (bM k) _ (x.bc bM) (bM j) (Mem.rN fR ae) (iW.2 ⟨x, aa, rfl⟩) (AC.E4 af);obtain ⟨ds, h2, _⟩ := Mem.rO h1;rw [fR] at h2;exact ⟨ds, h2⟩
  ·exact OK (h.inj (bM k) (bM k') _ _ (Mem.rN fR ae) (Mem.rN fR en) e)
  ·obtain ⟨h1, ao, aH⟩ := h.rows (iE i) r (by unfold aL.bc; rw [ga]; exact hi);exact ⟨h1.kept ao (fun _ _ => rfl) (eb _) (fun b ab _ => ⟨ab, rfl⟩), ao, fun g ax => ⟨(aH g ax).1, fun k cs ae => (aH g ax).2 (bM k) _ (Mem.rN fR ae)⟩⟩
 ·intro h;refine ⟨fun k cs ae => ?_, fun k cs x j ae aa af => ?_, fun k k' cs au ae en e => ?_, fun i r hi => ?_, fun i j r q hi af fI g ax => h.apart (cb i) (cb j) r q hi af (fun e => fI (aaE e)) g ax⟩
  ·obtain ⟨ds, aJ, rfl⟩ := Mem.rO ae;obtain ⟨vs, ty, h1, h2, ao⟩ := h.dG (bM k) ds aJ;simp only [fR] at h1 ao;exact ⟨vs, ty, h1, b3.bc.2 h2, ao⟩
  ·obtain ⟨ds, aJ, rfl⟩ := Mem.rO ae;obtain ⟨y, ag, rfl⟩ := iW.1 aa;obtain ⟨i, h1, rfl⟩ := AC.Fo af;obtain ⟨au, h2⟩ := h.gb (bM k) ds y i aJ ag h1;exact ⟨_, Mem.rN fR h2⟩
  ·obtain ⟨ds, aJ, _⟩ := Mem.rO ae;obtain ⟨WT, zO, _⟩ := Mem.rO en;exact OK (h.inj (bM k) (bM k') _ _ aJ zO (by simp only [fR]; exact e))
  ·obtain ⟨h1, ao, aH⟩ := h.rows (cb i) r hi;refine ⟨h1.kept ao (fun _ _ => rfl) (eb _) (fun b ab _ => ⟨ab, rfl⟩), ao, fun g ax => ⟨(aH g ax).1, fun k cs ae => ?_⟩⟩;obtain ⟨ds, aJ, _⟩ := Mem.rO ae;have := (aH g ax).2 (bM k) ds aJ;simpa only [fR] using this
theorem dk.bc (fR : ∀ j, bM (bM j) = j) (ga : ∀ j, cb (iE j) = j) (wq : ∀ j, iE (cb j) = j) {f : FuncId} {args : List ai} {m0 : Mem} {R0 : aL} {Post : ai → Mem → aL → Prop} (h : dk P f args m0 R0 Post) :
  dk P f (args.map (ai.bc bM)) (m0.bc bM) (R0.bc cb) fun r aK aC => ∃ cN m1 bl, Post cN m1 bl ∧ r = cN.bc bM ∧ aK = Mem.bc bM m1 ∧ aC = aL.bc cb bl := by
 refine ⟨fun U ad W vs cA ez dX => ?_⟩;have aah : ks U (fun k => ad (bM k)) W args vs := ⟨by simpa using dX.1, fun i x v aa hv => dn.bc.1 (dX.2 i (x.bc bM) v (by rw [eG, aa]; rfl) hv)⟩;refine (h.call U (fun k => ad (bM k)) W vs ((fe.bc fR ga wq).1 cA) (fun x aa j af => ?_) aah).mono ?_
 ·obtain ⟨cs, h1⟩ := ez (x.bc bM) (iW.2 ⟨x, aa, rfl⟩) (bM j) (ai.E4 af);obtain ⟨ds, h2, _⟩ := Mem.rO h1;rw [fR] at h2;exact ⟨ds, h2⟩
 ·rintro e bn ⟨v, r, aK, aC, bg, cK, rfl, h1, h2, ao, aH, cM, fQ, j0, qg, jh⟩;have aG : (fun k => (fun k => bg (bM k)) (bM k)) = bg := by funext k; simp only [fR]
  refine ⟨v, r.bc bM, aK.bc bM, aC.bc cb, fun k => bg (bM k), cK, rfl, ⟨r, aK, aC, h1, rfl, rfl, rfl⟩, (fe.bc fR ga wq).2 (by rw [aG]; exact h2), dn.bc.2 (by rw [aG]; exact ao), fun j af => ?_, fun k cs ae => ?_, fun i q hi => ?_, fun b ab => ?_, fun b ab => ?_, ⟨jh.os, jh.tape, jh.output, jh.size, fun b ab => jh.block b ⟨ab.1, fun aW => ab.2 ((ew.bc fR ga).2 aW)⟩⟩⟩
  ·obtain ⟨i, q1, rfl⟩ := ai.Fo af;obtain ⟨cs, q2⟩ := aH i q1;exact ⟨_, Mem.rN fR q2⟩
  ·obtain ⟨ds, db, _⟩ := Mem.rO ae;obtain ⟨q1, au, q2⟩ := cM (bM k) ds db;refine ⟨by show bg (bM k) = ad k; rw [q1, fR], ?_⟩;have := Mem.rN fR q2;rw [fR] at this;exact ⟨_, this⟩
  ·exact fQ (cb i) q hi
  ·rcases j0 b ab with q | q | q
   ·exact .inl q
   ·exact .inr (.inl q)
   ·exact .inr (.inr ((ew.bc fR ga).2 q))
  ·have : ew (fun k => (fun k => bg (bM k)) (bM k)) aK aC b := (ew.bc fR ga).1 ab;rw [aG] at this;rcases qg b this with q | q
   ·exact .inl ((ew.bc fR ga).2 q)
   ·exact .inr q
end
def swp (a b j : Nat) : Nat := if j = a then b else if j = b then a else j
theorem nk (a b j : Nat) : swp a b (swp a b j) = j := by
 unfold swp
 by_cases h1 : j = a
 ·subst h1
  by_cases h2 : b = j
  ·simp [h2]
  ·simp [h2]
 ·by_cases h2 : j = b
  ·subst h2; simp [h1]
  ·simp [h1, h2]
theorem BG (a b : Nat) : swp a b a = b := by simp [swp]
theorem Sh (a b : Nat) : swp a b b = a := by unfold swp; by_cases h : b = a <;> simp [h]
theorem Rz {bM : Nat → Nat} {x : AC} (h : x.bd = true) : x.bc bM = x := by cases x <;> first | rfl | cases h
theorem RA {bM : Nat → Nat} {xs : List AC} (h : xs.all AC.bd = true) : xs.map (AC.bc bM) = xs := by
 rw [cB] at h
 conv => rhs; rw [← List.map_id xs]
 exact oD fun x aa => Rz (h x aa)
theorem u6 {bM : Nat → Nat} {x : ai} (h : x.bd = true) : x.bc bM = x := by
 have key : ∀ y : bK, y.bd = true → y.bc bM = y := fun y ag => by
  cases y with
  | one x => show bK.one (x.bc bM) = _; rw [Rz ag]
  | agg xs => show bK.agg (xs.map _) = _; rw [RA ag]
 cases x with
 | w x => show ai.w (x.bc bM) = _; rw [key x h]
 | dd xs =>
  show ai.dd (xs.map _) = _;congr 1;have ar : ∀ x ∈ xs, x.bd = true := cB.1 h
  conv => rhs; rw [← List.map_id xs]
  exact oD fun x aa => key x (ar x aa)
theorem wB {k j : Nat} {cs : List AC} (h : cs.all AC.bd = true) : Mem.bc (swp k j) (cO k cs) = cO j cs := by
 funext i;unfold Mem.bc cO
 by_cases e : i = j
 ·subst e; rw [Sh, cw, cw, hy, RA h]
 ·rw [cl _ _ e, cl _ _ (fun aM => e (by rw [← nk k j i, aM, BG]))]; rfl
theorem Bp {k j : Nat} {r : bS} : aL.bc (swp k j) (bH k r) = bH j r := by
 funext i;unfold aL.bc bH
 by_cases e : i = j
 ·subst e; rw [Sh, cw, cw]
 ·rw [cl _ _ e, cl _ _ (fun aM => e (by rw [← nk k j i, aM, BG]))]; rfl
def qY (P : Program) (f : FuncId) (args : List ai) (cs : List AC) (r : bS) (post : ai → List AC → bS → Prop) : Prop :=
 ∀ k i, dk P f (.w (.one (.own k 0)) :: args) (cO k cs) (bH i r) fun v aK aC => ∃ au ba, aK = cO k au ∧ aC = bH i ba ∧ post v au ba
theorem uT {P : Program} {f : FuncId} {args : List ai} {cs : List AC} {r : bS} {post : ai → List AC → bS → Prop} (aI : args.all ai.bd = true) (ak : cs.all AC.bd = true) (hp : ∀ v au ba, post v au ba → v.bd = true ∧ au.all AC.bd = true)
  (h : dk P f (.w (.one (.own 1000 0)) :: args) (cO 1000 cs) (bH 0 r) fun v aK aC => ∃ au ba, aK = cO 1000 au ∧ aC = bH 0 ba ∧ post v au ba) : qY P f args cs r post := by
 intro k i;have h1 := h.bc (bM := swp 1000 k) (cb := swp 0 i) (iE := swp 0 i) (nk _ _) (nk _ _) (nk _ _)
 have aG : (ai.w (.one (.own 1000 0)) :: args).map (ai.bc (swp 1000 k)) = .w (.one (.own k 0)) :: args := by
  have aM : args.map (ai.bc (swp 1000 k)) = args := by
   rw [cB] at aI
   conv => rhs; rw [← List.map_id args]
   exact oD fun x aa => u6 (aI x aa)
  rw [k5, aM];show ai.w (.one (.own (swp 1000 k 1000) 0)) :: args = _;rw [BG]
 rw [aG, wB ak, Bp] at h1;refine ⟨fun U ad W vs cA ez dX => (h1.call U ad W vs cA ez dX).mono ?_⟩;rintro e bn ⟨v, cN, aK, aC, bg, cK, db, ⟨cJ, m2, eZ, ⟨au, ba, rfl, rfl, an⟩, rfl, rfl, rfl⟩, q⟩;obtain ⟨c1, c2⟩ := hp _ _ _ an;rw [wB c2, Bp, u6 c1] at q;exact ⟨v, cJ, cO k au, bH i ba, bg, cK, db, ⟨au, ba, rfl, rfl, an⟩, q⟩
section
variable {P : Program} {R : aL} {s : aE} {ops : Array Oper} {dr : Option (List Nat)} {ty : Nat} {pos : String} {after : Array Edge} {guard : Option (Nat × Bool)} {K : aL → aE → Prop} {rest : List Oper}
def li (dst : Option Nat) (n : Nat) : Bool := match dst with
 | some d => Nat.blt d n
 | none => true
theorem MG {dst : Option Nat} {n : Nat} (h : li dst n = true) : ∀ d, dst = some d → d < n := fun d e => by subst e; simpa [li, Nat.blt_eq] using h
theorem wk {dst : Option Nat} {f : FuncId} {g : Operand} {aS : Array TypeId} {l : List Operand} {args : List ai} {m0 : Mem} {R0 : aL} {Post : ai → Mem → aL → Prop} [E : Enters P f] (hw : want ops ⟨dst, .call ⟨.value g, l.toArray, aS⟩, ty, pos, after, guard⟩ s = some true) (hm : dE dr ⟨dst, .call ⟨.value g, l.toArray, aS⟩, ty, pos, after, guard⟩ = true)
  (ax : s.look g = some (aU (.func (.func f) #[] #[]))) (aI : l.map s.look = args.map some) (hp : dk P f args m0 R0 Post) (aB : ∀ x ∈ args, ∀ j, x.owns j → ∃ cs, m0 j = some cs) (qm : ∀ k cs, m0 k = some cs → s.mem k = some cs ∧ (pD dr k = true ∨ ∀ r aK aC, Post r aK aC → aK k = some cs)) (al : bL R0 R) (gb : ∀ k cs x j, m0 k = some cs → x ∈ cs → x.owns j → ∃ au, m0 j = some au) (hd : li dst s.n = true)
  (h : ∀ r aK aC, Post r aK aC → (∀ k au, aK k = some au → (∃ cs, m0 k = some cs) ∨ (s.mem k = none ∧ k < s.n)) ∧ cQ P ops dr K rest (b9 aC R) ((s.over aK).put dst r)) : cQ P ops dr K (⟨dst, .call ⟨.value g, l.toArray, aS⟩, ty, pos, after, guard⟩ :: rest) R s := by
 refine ⟨true, hw, MG hd, .inr (.inr (.inr (.inr (.inl ⟨rfl, hm, f, args, m0, R0, Post, ⟨⟨_, g, rfl, rfl, .inl ⟨[], ax, ?_, rfl⟩⟩, E.h⟩, hp, aB, qm, al, gb, fun r aK aC h1 _ _ _ => h r aK aC h1⟩))))⟩;simpa using aI
theorem Oj (k i : Nat) {dst : Option Nat} {f : FuncId} {g : Operand} {aS : Array TypeId} {l : List Operand} {args : List ai} {cs : List AC} {r : bS} {post : ai → List AC → bS → Prop} [E : Enters P f] (hw : want ops ⟨dst, .call ⟨.value g, l.toArray, aS⟩, ty, pos, after, guard⟩ s = some true) (hm : dE dr ⟨dst, .call ⟨.value g, l.toArray, aS⟩, ty, pos, after, guard⟩ = true)
  (ax : s.look g = some (aU (.func (.func f) #[] #[]))) (aI : l.map s.look = (ai.w (.one (.own k 0)) :: args).map some) (hp : qY P f args cs r post) (ae : s.mem k = some cs) (hZ : pD dr k = true ∨ ∀ v au ba, post v au ba → au = cs) (hi : R i = some r) (ak : cs.all AC.bd = true) (et : args.all ai.bd = true) (hd : li dst s.n = true)
  (h : ∀ v au ba, post v au ba → cQ P ops dr K rest (bJ R i ba) ((s.ep k au).put dst v)) : cQ P ops dr K (⟨dst, .call ⟨.value g, l.toArray, aS⟩, ty, pos, after, guard⟩ :: rest) R s := by
 refine wk hw hm ax aI (hp k i) (fun x aa j af => ?_) (fun k' au ar => ?_) (fun fS ba ar => ?_) (fun k' au x j ar aa af => ?_) hd ?_
 ·rcases gS.1 aa with rfl | aa
  ·obtain ⟨y, ag, af⟩ := af;simp [bK.cells] at ag;subst ag;cases af;exact ⟨cs, by unfold cO; exact cw _ _ _⟩
  ·exact absurd af (ai.dI (cB.1 et x aa) j)
 ·obtain ⟨rfl, rfl⟩ := h3 ar;refine ⟨ae, hZ.imp id fun hu => ?_⟩;rintro v aK aC ⟨au, ba, rfl, rfl, an⟩;rw [hu v au ba an]; unfold cO; exact cw _ _ _
 ·obtain ⟨rfl, rfl⟩ := gg ar; exact hi
 ·obtain ⟨rfl, rfl⟩ := h3 ar;exact absurd af (AC.dI (cB.1 ak x aa) j)
 ·rintro v aK aC ⟨au, ba, rfl, rfl, an⟩;refine ⟨fun k' c ar => ?_, ?_⟩
  ·obtain ⟨rfl, rfl⟩ := h3 ar;exact .inl ⟨cs, by unfold cO; exact cw _ _ _⟩
  ·have aG : b9 (bH i ba) R = bJ R i ba := wJ R i ba
   have aM : s.over (cO k au) = s.ep k au := by
    show ({ s with mem := b9 (bJ cm k au) s.mem } : aE) = { s with mem := bJ s.mem k au };rw [show b9 (bJ cm k au) s.mem = bJ s.mem k au from wJ s.mem k au]
   rw [aG, aM];exact h v au ba an
theorem sO (k i : Nat) {dst : Option Nat} {f : FuncId} {g : Operand} {aS : Array TypeId} {l : List Operand} {args : List ai} {cs : List AC} {r : bS} {post : ai → List AC → bS → Prop} [E : Enters P f] (hw : want ops ⟨dst, .call ⟨.value g, l.toArray, aS⟩, ty, pos, after, guard⟩ s = some true) (hm : dE dr ⟨dst, .call ⟨.value g, l.toArray, aS⟩, ty, pos, after, guard⟩ = true)
  (ax : s.look g = some (aU (.func (.func f) #[] #[]))) (aI : l.map s.look = (ai.w (.one (.own k 0)) :: args).map some) (hp : qY P f args cs r post) (ae : s.mem k = some cs) (hZ : pD dr k = true) (hi : R i = some r) (ak : cs.all AC.bd = true) (et : args.all ai.bd = true) (hd : li dst s.n = true)
  (h : ∀ v au ba, post v au ba → cQ P ops dr K rest (bJ R i ba) ((s.ep k au).put dst v)) : cQ P ops dr K (⟨dst, .call ⟨.value g, l.toArray, aS⟩, ty, pos, after, guard⟩ :: rest) R s :=
 Oj k i hw hm ax aI hp ae (.inl hZ) hi ak et hd h
theorem IA (k i : Nat) {dst : Option Nat} {f : FuncId} {g : Operand} {aS : Array TypeId} {l : List Operand} {args : List ai} {cs : List AC} {r : bS} {post : ai → List AC → bS → Prop} [E : Enters P f] (hw : want ops ⟨dst, .call ⟨.value g, l.toArray, aS⟩, ty, pos, after, guard⟩ s = some true) (hm : dE dr ⟨dst, .call ⟨.value g, l.toArray, aS⟩, ty, pos, after, guard⟩ = true)
  (ax : s.look g = some (aU (.func (.func f) #[] #[]))) (aI : l.map s.look = (ai.w (.one (.own k 0)) :: args).map some) (hp : qY P f args cs r post) (ae : s.mem k = some cs) (hZ : ∀ v au ba, post v au ba → au = cs) (hi : R i = some r) (ak : cs.all AC.bd = true) (et : args.all ai.bd = true) (hd : li dst s.n = true)
  (h : ∀ v au ba, post v au ba → cQ P ops dr K rest (bJ R i ba) ((s.ep k au).put dst v)) : cQ P ops dr K (⟨dst, .call ⟨.value g, l.toArray, aS⟩, ty, pos, after, guard⟩ :: rest) R s :=
 Oj k i hw hm ax aI hp ae (.inr hZ) hi ak et hd h
theorem df {x : Operand} {d k off : Nat} {K : aE → Prop} (hw : want ops ⟨some d, .nilCheck x, ty, pos, after, guard⟩ s = some true) (aa : s.look x = some (.w (.one (.own k off)))) (hd : Nat.blt d s.n = true) (h : bj P ops K rest (s.put (some d) (.w (.one (.own k off))))) : bj P ops K (⟨some d, .nilCheck x, ty, pos, after, guard⟩ :: rest) s := by
 refine gp hw ⟨fun _ _ h => (by cases h), fun y ag => ?_, fun U ad W env he => ?_, fun j af => ⟨x, by simp [Op.operands], _, aa, af⟩⟩ hd h
 ·simp [Op.operands] at ag;subst ag;exact ⟨_, aa⟩
 ·have hv : env x = .pointer (some ⟨ad k, off, none⟩) := he x (by simp [Op.operands]) _ aa;exact ⟨_, by simp only [execOp, hv]; rfl, rfl⟩
end
section
variable {P : Program}
theorem eB {n : Nat} {cs : List AC} (h : Nat.ble n 1000 = true) : ∀ k au, cO 1000 cs k = some au → n ≤ k := fun k au ae => by
 obtain ⟨rfl, _⟩ := h3 ae;exact du h
theorem n3 {n : Nat} : ∀ k au, cm k = some au → n ≤ k := fun k au ae => by cases ae
theorem rl {fn : Func} {l : List ResultVar} {xs : List bK} {R : aL} {s : aE} {cs au : List AC} {r ba : bS} {post : ai → List AC → bS → Prop} (al : fn.results = l.toArray) (h : l.map (iZ P s) = xs.map some) (ae : s.mem 1000 = some au) (hi : R 0 = some ba) (ak : au.all AC.bd = true) (aa : (packed xs).bd = true)
  (hp : post (packed xs) au ba) : uw P fn (cO 1000 cs) (bH 0 r) (fun v aK aC => ∃ au ba, aK = cO 1000 au ∧ aC = bH 0 ba ∧ post v au ba) R s := by
 refine ⟨xs, packed xs, cO 1000 au, bH 0 ba, by rw [al]; exact h, .refl _, ⟨au, ba, rfl, rfl, hp⟩, fun k c h => ?_, fun i q h => ?_, fun j af => absurd af (ai.dI aa j), fun k c x j h aa af => ?_, fun k c h => ?_, fun i q h => ?_⟩
 ·obtain ⟨rfl, rfl⟩ := h3 h; exact ae
 ·obtain ⟨rfl, rfl⟩ := gg h; exact hi
 ·obtain ⟨rfl, rfl⟩ := h3 h; exact absurd af (AC.dI (cB.1 ak x aa) j)
 ·obtain ⟨rfl, rfl⟩ := h3 h; exact ⟨au, by unfold cO; exact cw _ _ _⟩
 ·obtain ⟨rfl, rfl⟩ := gg h; exact ⟨ba, by unfold bH; exact cw _ _ _⟩
def AC.ys (k : Nat) : AC → Bool
 | .own j _ => Nat.beq j k
 | _ => true
def ai.ys (k : Nat) : ai → Bool
 | .w x => x.cells.all (AC.ys k)
 | .dd xs => xs.all fun x => x.cells.all (AC.ys k)
theorem ai.ady {k j : Nat} {x : ai} (h : x.ys k = true) (af : x.owns j) : j = k := by
 have key : ∀ y : bK, y.cells.all (AC.ys k) = true → y.owns j → j = k := by
  rintro y ag ⟨z, a6, AE⟩;have := cB.1 ag z a6;cases z with
  | own i o => cases AE; exact hP this
  | c v => cases AE
  | p R => cases AE
 cases x with
 | w y => exact key y h af
 | dd xs =>
  obtain ⟨y, ag, mu⟩ := af;exact key y (cB.1 h y ag) mu
end
abbrev ahg : ai := aU (.slice none 0 0)
theorem Qd (z : Nat) : ahg.bo (cT z 0 []) := fun U ad W v h => by
 obtain ⟨rfl, _⟩ := h;exact ⟨⟨none, 0, rfl, eb _, by simp, fun h => absurd h (Nat.lt_irrefl _)⟩, fun b ⟨c, a, q, aD, _⟩ => absurd aD (Nat.lt_irrefl _)⟩
section
variable {P : Program} {R : aL} {s : aE} {ops : Array Oper} {dr : Option (List Nat)} {ty : Nat} {pos : String} {after : Array Edge} {guard : Option (Nat × Bool)} {K : aL → aE → Prop} {rest : List Oper}
end
end Go.Proofs.YtpochbhajmbfdaaGreat
namespace Go.Proofs.YtpochbhajmbfdaaGreat
open Go
section
variable {P : Program} {ops : Array Oper} {Q : Exit → Act → World → Prop} {md : Region.Mode} {S : World → Prop} {T : Nat → Bool}
def nW (P : Program) (md : Region.Mode) (ops : Array Oper) (Q : Exit → Act → World → Prop) (S : World → Prop) (T : Nat → Bool) : Nat → Array Bool → Act → World → Prop
 | 0, l, a, w => Region.ready md ops l = [] ∧ Q .normal a w
 | n + 1, l, a, w => (Region.ready md ops l = [] → Q .normal a w) ∧ ∀ i ∈ Region.ready md ops l, wpOp P ops Q i (fun a' w' => (T i = true ∨ S w') ∧ nW P md ops Q S T n (l.setIfInBounds i true) a' w') a w
theorem nW.any {n : Nat} : ∀ {l : Array Bool} {a : Act} {w : World}, nW P md ops Q S T n l a w → wpAny P md ops Q n l a w := by
 induction n with
 | zero => exact fun h => h
 | succ n bW => exact fun h => ⟨h.1, fun i hi => wpOp_mono (fun _ _ k => bW k.2) (h.2 i hi)⟩
theorem Qf {l : Array Bool} {i j : Nat} {bk : Oper} {e : Edge} (iP : l.getD i true = false) (af : j ∈ Region.ready md ops l) (fZ : ops[j]? = some bk) (he : e ∈ bk.after) (ab : Region.binds md e = true) : e.on ≠ i := by
 rintro rfl;obtain ⟨_, o, aB, di⟩ := mem_ready.1 af;obtain rfl : bk = o := mD (fZ.symm.trans aB);have h := di e he ab;cases hs : l[e.on]? with
 | none => simp [yw, hs] at iP
 | some b => simp [yw, hs] at iP h; rw [iP] at h; cases h
theorem ahc {l : Array Bool} {j m : Nat} (h : (l.setIfInBounds j true).getD m true = false) : l.getD m true = false := by
 by_cases e : j = m
 ·subst e;rw [yw, Array.getElem?_setIfInBounds] at h
  by_cases q : j < l.size
  ·simp [q] at h
  ·rw [if_pos rfl, if_neg q] at h; cases h
 ·rw [getD_set_ne true e] at h; exact h
theorem nW.first {i k : Nat} {bm : Oper} {v : Value} {U : Nat → Prop} (hi : ops[i]? = some bm) (Oq : ∀ (j : Nat) (o : Oper) cs b, ops[j]? = some o → o.op ≠ .select cs b)
  (jF : ∀ c a w, Q (.panic c) (a.put bm.dst v) w → Q (.panic c) a w)
  (qi : ∀ j bk, U j → ops[j]? = some bk → j ≠ i → (∀ e ∈ bk.after, Region.binds md e = true → e.on ≠ i) → bm.apart ops bk = true)
  (ee : ∀ j bk, U j → T j = true → ops[j]? = some bk → ∃ e ∈ bk.after, Region.binds md e = true ∧ (e.on = i ∨ e.on = k))
  (ae : ∀ ok, ops[k]? = some ok → ∃ e ∈ ok.after, Region.binds md e = true ∧ e.on = i) (n : Nat) :
  ∀ (l : Array Bool) (a : Act) (w : World), (∀ j, l.getD j true = false → U j) → l.getD k true = false → i ∈ Region.ready md ops l → YieldsIf P ops S bm v a → S w →
   nW P md ops Q S T n (l.setIfInBounds i true) (a.put bm.dst v) w → nW P md ops Q S T (n + 1) l a w := by
 induction n with
 | zero =>
  intro l a w _ _ al ag hS H;refine ⟨fun h => absurd (h ▸ al) (rH), fun j af => ?_⟩
  by_cases e : j = i
  ·exact e ▸ ag.wpOp hi hS ⟨.inr hS, H⟩
  ·exact absurd (H.1 ▸ ready_mono af e) (rH)
 | succ n bW =>
  intro l a w dJ ap al ag hS H;have iP : l.getD i true = false := (mem_ready.1 al).1;refine ⟨fun h => absurd (h ▸ al) (rH), fun j af => ?_⟩
  by_cases e : j = i
  ·exact e ▸ ag.wpOp hi hS ⟨.inr hS, H⟩
  obtain ⟨_, bk, fZ, _⟩ := mem_ready.1 af;have fY : ∀ e ∈ bk.after, Region.binds md e = true → e.on ≠ i := fun e he ab => Qf iP af fZ he ab;have ND : U j := dJ j (mem_ready.1 af).1;refine wpOp_mono (fun a' w' h => ?_) (wpOp_putIf fZ (qi j bk ND fZ e fY) (fun cs b => Oq i bm cs b hi) (fun cs b => Oq j bk cs b fZ) jF ag (H.2 j (ready_mono af e)));obtain ⟨IJ, aF | fH, cn⟩ := h
  ·obtain ⟨x, aa, ab, mV | mV⟩ := ee j bk ND aF fZ
   ·exact absurd mV (fY x aa ab)
   ·exact absurd mV (Qf ap af fZ aa ab)
  ·have aaY : j ≠ k := fun hU => by
    subst hU;obtain ⟨x, aa, ab, mV⟩ := ae bk fZ;exact fY x aa ab mV
   refine ⟨.inr fH, bW _ a' w' (fun m hm => dJ m (ahc hm)) (by rw [getD_set_ne true aaY]; exact ap) (ready_mono al (Ne.symm e)) IJ fH ?_⟩;rw [Array.setIfInBounds_comm _ _ e];exact cn
def PA (md : Region.Mode) (ops : Array Oper) (T : Nat → Bool) (l : Array Bool) (bm : Oper) (i k : Nat) : Bool :=
 (List.range ops.size).all (fun j => l.getD j true || (j == i || Region.waitsFor md ops j i || (match ops[j]? with | some bk => bm.apart ops bk | none => true)) && (!T j || Region.waitsFor md ops j i || Region.waitsFor md ops j k)) && Region.waitsFor md ops k i && !l.getD k true
theorem F0 {i j : Nat} {bk : Oper} (aB : ops[j]? = some bk) (h : Region.waitsFor md ops j i = true) : ∃ e ∈ bk.after, Region.binds md e = true ∧ e.on = i := by
 obtain ⟨o, h2, ao⟩ := Region.waitsFor_spec h;obtain rfl : bk = o := mD (aB.symm.trans h2);exact ao
theorem KC {i : Nat} (k : Nat) {bm : Oper} {v : Value} {n : Nat} {l : Array Bool} {a : Act} {w : World} (hi : ops[i]? = some bm)
  (hs : Region.noSelect ops = true) (al : (Region.ready md ops l).contains i = true) (hm : PA md ops T l bm i k = true)
  (jF : ∀ c a w, Q (.panic c) (a.put bm.dst v) w → Q (.panic c) a w) (ag : YieldsIf P ops S bm v a) (hS : S w)
  (h : nW P md ops Q S T n (l.setIfInBounds i true) (a.put bm.dst v) w) : nW P md ops Q S T (n + 1) l a w := by
 unfold PA at hm;simp only [eh, tf] at hm;obtain ⟨⟨di, kW⟩, ap⟩ := hm
 have at_ : ∀ j bk, l.getD j true = false → ops[j]? = some bk → (j == i || Region.waitsFor md ops j i || bm.apart ops bk) = true ∧ (!T j || Region.waitsFor md ops j i || Region.waitsFor md ops j k) = true := fun j bk hu aB => by
  have bh : j < ops.size := by
   rcases jt j ops.size with h | h
   ·exact h
   ·rw [wM h] at aB; cases aB
  have := cB.1 di j (List.mem_range.2 bh);rw [aB, hu, Bool.false_or] at this;simpa only [eh] using this
 refine nW.first (k := k) (U := fun j => l.getD j true = false) hi (Region.noSelect_spec hs) jF (fun j bk hu aB ne fY => ?_) (fun j bk hu aF aB => ?_) (fun ok aB => F0 aB kW) n l a w (fun _ h => h) ap (by simpa using al) ag hS h
 ·have h1 := (at_ j bk hu aB).1;simp only [rK, beq_iff_eq] at h1;rcases h1 with (h1 | h1) | h1
  ·exact absurd h1 ne
  ·obtain ⟨e, he, ab, mV⟩ := F0 aB h1;exact absurd mV (fY e he ab)
  ·exact h1
 ·have h1 := (at_ j bk hu aB).2;simp only [aF, Bool.not_true, Bool.false_or, rK] at h1;rcases h1 with h1 | h1
  ·obtain ⟨e, he, ab, mV⟩ := F0 aB h1;exact ⟨e, he, ab, .inl mV⟩
  ·obtain ⟨e, he, ab, mV⟩ := F0 aB h1;exact ⟨e, he, ab, .inr mV⟩
theorem BP {i : Nat} {o : Oper} {n : Nat} {l : Array Bool} {a : Act} {w : World} (al : Region.ready md ops l = [i]) (aB : ops[i]? = some o)
  (h : ∀ je : Act → World → Prop, Shut (∀ a w, (T i = true ∨ S w) → nW P md ops Q S T n (l.setIfInBounds i true) a w → je a w) → if Region.wanted o (yielded ops a.tmps) = true then Oper.wp P o a w je Q else je (a.put o.dst undef) w) :
  nW P md ops Q S T (n + 1) l a w := by
 refine ⟨fun aJ => absurd (al.symm.trans aJ) (by simp), fun j af => ?_⟩;obtain rfl : j = i := by rw [al] at af; simpa using af
 exact wpOp_step aB (fun je ek => h je (fun a w x y => ek a w ⟨x, y⟩))
theorem aho {l : Array Bool} {a : Act} {w : World} (al : Region.ready md ops l = []) (h : Q .normal a w) (n : Nat) : nW P md ops Q S T n l a w := by
 cases n with
 | zero => exact ⟨al, h⟩
 | succ n => exact ⟨fun _ => h, fun i hi => absurd (al ▸ hi) (rH)⟩
theorem ahq {id : Nat} {a : Act} {w : World} (hm : P.follows .mixedOrders = true)
  (h : nW P .any ops Q S T ops.size (Array.replicate ops.size false) a w.drew) : (Code.region id ops true).wp P Q a w :=
 wp_region_any hm h.any
end
end Go.Proofs.YtpochbhajmbfdaaGreat
namespace Go.Proofs.YtpochbhajmbfdaaGreat
open Go.RowKit
end Go.Proofs.YtpochbhajmbfdaaGreat
namespace Go.Proofs.YtpochbhajmbfdaaGreat
open Go.RowKit
end Go.Proofs.YtpochbhajmbfdaaGreat
namespace Go.Proofs.YtpochbhajmbfdaaGreat
open Go.RowKit
theorem OC {a b : Int} (h : a < b) : gj a b = -1 := by unfold gj; rw [if_neg (by omega), if_pos h]
theorem aay {a b : Int} (h : b < a) : gj a b = 1 := by unfold gj; rw [if_neg (by omega), if_neg (by omega)]
end Go.Proofs.YtpochbhajmbfdaaGreat
namespace Go.Proofs.YtpochbhajmbfdaaGreat
open Go.RowKit
end Go.Proofs.YtpochbhajmbfdaaGreat
namespace Go.Proofs.YtpochbhajmbfdaaGreat
open Go.RowKit
end Go.Proofs.YtpochbhajmbfdaaGreat
namespace Go.Proofs.YtpochbhajmbfdaaGreat
open Go.RowKit
end Go.Proofs.YtpochbhajmbfdaaGreat
namespace Go.Proofs.YtpochbhajmbfdaaGreat
open Go.RowKit
end Go.Proofs.YtpochbhajmbfdaaGreat
namespace Go.Proofs.YtpochbhajmbfdaaGreat
open Go.RowKit
theorem aax {a b : Int} : (gj a b ≥ 0) ↔ b ≤ a := by
 unfold gj
 repeat' split
 all_goals omega
end Go.Proofs.YtpochbhajmbfdaaGreat
namespace Go.Proofs.YtpochbhajmbfdaaGreat
open Go.RowKit
end Go.Proofs.YtpochbhajmbfdaaGreat
namespace Go.Proofs.YtpochbhajmbfdaaGreat
open Go.RowKit
end Go.Proofs.YtpochbhajmbfdaaGreat
namespace Go.Proofs.YtpochbhajmbfdaaGreat
open Go.RowKit
theorem Rc (j : Nat) : (0 : Int) < 2 ^ j ∧ (2 : Int) ^ j < 10000 ^ (j + 1) := by
 induction j with
 | zero => decide
 | succ j bW => rw [Int.pow_succ, Int.pow_succ (10000 : Int) (j + 1)]; omega
end Go.Proofs.YtpochbhajmbfdaaGreat
namespace Go.Proofs
open Go.Shelf
def Tryz.abJ : Go.Shelf.Ren := ⟨fun | 134 => 305 | 129 => 300 | n => n, fun | 53 => 157 | 3 => 3 | 4 => 4 | 46 => 253 | 5 => 5 | 9 => 9 | n => n, fun | n => n⟩
theorem Tryz.abI : Go.Proofs.Lays.n134 aj Tryz.abJ := {
 mixed := by kernel_rfl
 f129 := Tryz.func300.trans (congrArg some (by kernel_rfl))
 f134 := Tryz.func305.trans (congrArg some (by kernel_rfl))
 t3 := Tryz.underlying3
 a3 := Tryz.isAgg3
 z3 := Tryz.sizeOf3
 v3 := Tryz.zeroValue3
 t4 := Tryz.underlying4
 a4 := Tryz.isAgg4
 z4 := Tryz.sizeOf4
 v4 := Tryz.zeroValue4
 t5 := Tryz.underlying5
 a5 := Tryz.isAgg5
 z5 := Tryz.sizeOf5
 v5 := Tryz.zeroValue5
 t9 := Tryz.underlying9
 a9 := Tryz.isAgg9
 z9 := Tryz.sizeOf9
 v9 := Tryz.zeroValue9
 t46 := Tryz.underlying253
 a46 := Tryz.isAgg253
 z46 := Tryz.sizeOf253
 v46 := Tryz.zeroValue253
 t53 := Tryz.underlying157
 a53 := Tryz.isAgg157
 z53 := Tryz.sizeOf157
 v53 := Tryz.zeroValue157 }
theorem Tryz.bits_LeadingZeros64 (x : Int) (w : World) (aJ : 0 ≤ x) (h1 : x ≤ 18446744073709551615) :
  Calls aj 305 #[.int .u64 x] w fun e w' => e = .returned (.int .i64 (64 - (Lib.bitLen x.toNat : Int))) ∧ w' = w := Any.bits_LeadingZeros64 Tryz.abI x w aJ h1
def Tryz.abH : Go.Shelf.Ren := ⟨fun | 129 => 300 | n => n, fun | 53 => 157 | 3 => 3 | 4 => 4 | 46 => 253 | 5 => 5 | 9 => 9 | n => n, fun | n => n⟩
theorem Tryz.abG : Go.Proofs.Lays.n129 aj Tryz.abH := {
 mixed := by kernel_rfl
 f129 := Tryz.func300.trans (congrArg some (by kernel_rfl))
 t3 := Tryz.underlying3
 a3 := Tryz.isAgg3
 z3 := Tryz.sizeOf3
 v3 := Tryz.zeroValue3
 t4 := Tryz.underlying4
 a4 := Tryz.isAgg4
 z4 := Tryz.sizeOf4
 v4 := Tryz.zeroValue4
 t5 := Tryz.underlying5
 a5 := Tryz.isAgg5
 z5 := Tryz.sizeOf5
 v5 := Tryz.zeroValue5
 t9 := Tryz.underlying9
 a9 := Tryz.isAgg9
 z9 := Tryz.sizeOf9
 v9 := Tryz.zeroValue9
 t46 := Tryz.underlying253
 a46 := Tryz.isAgg253
 z46 := Tryz.sizeOf253
 v46 := Tryz.zeroValue253
 t53 := Tryz.underlying157
 a53 := Tryz.isAgg157
 z53 := Tryz.sizeOf157
 v53 := Tryz.zeroValue157 }
theorem Tryz.bits_Len64 (x : Int) (w : World) (aJ : 0 ≤ x) (h1 : x ≤ 18446744073709551615) :
  Calls aj 300 #[.int .u64 x] w fun e w' => e = .returned (.int .i64 (Lib.bitLen x.toNat)) ∧ w' = w := Any.bits_Len64 Tryz.abG x w aJ h1
def Tryz.abL : Go.Shelf.Ren := ⟨fun | 264 => 258 | n => n, fun | 53 => 157 | 46 => 253 | n => n, fun | n => n⟩
theorem Tryz.abK : Go.Proofs.Lays.n264 aj Tryz.abL := {
 mixed := by kernel_rfl
 f264 := Tryz.func258.trans (congrArg some (by kernel_rfl))
 t46 := Tryz.underlying253
 a46 := Tryz.isAgg253
 z46 := Tryz.sizeOf253
 v46 := Tryz.zeroValue253
 t53 := Tryz.underlying157
 a53 := Tryz.isAgg157
 z53 := Tryz.sizeOf157
 v53 := Tryz.zeroValue157 }
open Go.RowKit Go.Lib in
theorem Tryz.bits_Mul64 (x y : Nat) (aa : x < 18446744073709551616) (ag : y < 18446744073709551616) (w : World) :
  Calls aj 258 #[.int .u64 x, .int .u64 y] w fun e w' => e = .returned (.tuple #[.int .u64 ((x * y / 18446744073709551616 : Nat) : Int), .int .u64 ((x * y % 18446744073709551616 : Nat) : Int)]) ∧ w' = w := Any.bits_Mul64 Tryz.abK x y aa ag w
end Go.Proofs
namespace Go.Proofs.YtpochbhajmbfdaaGreat
open Go.RowKit
theorem cP.conv {H L n m : Int} (h : cP H L n) (e : n = m) : cP H L m := e ▸ h
theorem size_pos {h l n : Int} (H : bz h l n) (k : 0 ≤ h) : cP (IntKind.u64.wrap h) l n.natAbs := by
  obtain ⟨b1, b2, rfl⟩ := H;unfold cP;rw [IntKind.wrap_u64];omega
theorem agr {h l n a b : Int} (H : bz h l n) (K : bz a b (wr (0 - n))) (k : h < 0) : cP (IntKind.u64.wrap a) b n.natAbs := by
  obtain ⟨b1, b2, rfl⟩ := H;obtain ⟨ey, dQ, e⟩ := K;unfold wr at e;unfold cP;rw [IntKind.wrap_u64];omega
theorem BC (h1 l1 n : Int) (w : World) (H1 : bz h1 l1 n) :
    Calls aj 279 #[.agg #[.int .i64 h1, .int .u64 l1]] w (aN n.natAbs w) := by
  go_enter Tryz.func279, Tryz.ntmps279
  go_wp2_with (go_at_call 245; refine (A0 _ _ _ _ _ _ _ pb H1).mono ?_; rintro e aT ⟨gJ, iu, rfl, hs, ab⟩; have zl := Below.cell ab (p := ⟨w.heap.size, 0, none⟩) (by (simp; omega)); have zF := Below.frozen ab (p := ⟨w.heap.size, 0, none⟩) (by (simp; omega)); have zm := Below.cell ab (p := ⟨w.heap.size, 1, none⟩) (by (simp; omega)); have zG := Below.frozen ab (p := ⟨w.heap.size, 1, none⟩) (by (simp; omega)); have CU := Below.cell ab (p := ⟨w.heap.size + 1, 0, none⟩) (by (simp; done)); have Dm := Below.frozen ab (p := ⟨w.heap.size + 1, 0, none⟩) (by (simp; done)); have CV := Below.cell ab (p := ⟨w.heap.size + 1, 1, none⟩) (by (simp; done)); have Dn := Below.frozen ab (p := ⟨w.heap.size + 1, 1, none⟩) (by (simp; done)); have oo := Below.size ab; (try simp at oo); have ym : ¬ aT.heap.size = w.heap.size := (by omega); have A6 : ¬ aT.heap.size = w.heap.size + 1 := (by omega))
  · refine bodyPost_ret (v := .agg #[.int .u64 (IntKind.u64.wrap gJ), .int .u64 iu]) (by simp only [results, Tryz.results279]; go_simp) rfl ⟨_, _, rfl, agr H1 hs ‹_›, ?_⟩
    (repeat first | with_reducible exact Below.refl _ _ | with_reducible refine c7 ?_ _ | focus ((with_reducible refine eV ?_ _ _ _ ?_); rotate_left; omega) | with_reducible refine cc ?_ ab)
  · refine bodyPost_ret (v := .agg #[.int .u64 (IntKind.u64.wrap h1), .int .u64 l1]) (by simp only [results, Tryz.results279]; go_simp) rfl ⟨_, _, rfl, size_pos H1 ‹_›, ?_⟩
    (repeat first | with_reducible exact Below.refl _ _ | with_reducible refine c7 ?_ _)
theorem ago {h l n : Int} (H : cP h l n) : bz (wrap64 h) l (wr n) := by
  obtain ⟨b1, b2, rfl⟩ := H;unfold bz wr wrap64;omega
theorem R5 {h l n : Int} (H : cP h l n) (k : gh h l 0 0 = true ∨ 0 ≤ wrap64 h) : fits n = true ∧ bz (wrap64 h) l n := by
  rw [H.gh AJ, cL] at k;obtain ⟨b1, b2, rfl⟩ := H;unfold fits bz wrap64 at *;rw [cL];omega
theorem agc {h l n : Int} (H : cP h l n) (j : gh h l 0 0 = false) (k : wrap64 h < 0) : fits n = false := by
  rw [H.gh AJ, l0] at j;obtain ⟨b1, b2, rfl⟩ := H;unfold fits wrap64 at *;rw [l0];omega
theorem R4 {h l n a b : Int} (H : cP h l n) (K : bz a b (wr (0 - wr n))) (k : gh h l 0 0 = true ∨ a < 0) : fits (-n) = true ∧ bz a b (-n) := by
  rw [H.gh AJ, cL] at k;obtain ⟨b1, b2, rfl⟩ := H;obtain ⟨ey, dQ, e⟩ := K;unfold wr at e;unfold fits bz;rw [cL];omega
theorem af9 {h l n a b : Int} (H : cP h l n) (K : bz a b (wr (0 - wr n))) (j : gh h l 0 0 = false) (k : 0 ≤ a) : fits (-n) = false := by
  rw [H.gh AJ, l0] at j;obtain ⟨b1, b2, rfl⟩ := H;obtain ⟨ey, dQ, e⟩ := K;unfold wr at e;unfold fits;rw [l0];omega
theorem Km (h1 l1 n : Int) (w : World) (H1 : cP h1 l1 n) :
    Calls aj 280 #[.agg #[.int .u64 h1, .int .u64 l1], .bool false] w (mJ n w) := by
  go_enter Tryz.func280, Tryz.ntmps280
  go_wp2
  · refine bodyPost_ret (v := .tuple #[.agg #[.int .i64 0, .int .u64 0], .bool false]) (by simp only [results, Tryz.results280]; go_simp) rfl (wQ (agc H1 ‹_› ‹_›) ?_)
    (repeat first | with_reducible exact Below.refl _ _ | with_reducible refine c7 ?_ _)
  · have ag := R5 H1 (.inr ‹_›)
    refine bodyPost_ret (v := .tuple #[.agg #[.int .i64 (wrap64 h1), .int .u64 l1], .bool true]) (by simp only [results, Tryz.results280]; go_simp) rfl (tu ag.1 ag.2 ?_);(repeat first | with_reducible exact Below.refl _ _ | with_reducible refine c7 ?_ _)
  · have ag := R5 H1 (.inl ‹_›)
    refine bodyPost_ret (v := .tuple #[.agg #[.int .i64 (wrap64 h1), .int .u64 l1], .bool true]) (by simp only [results, Tryz.results280]; go_simp) rfl (tu ag.1 ag.2 ?_);(repeat first | with_reducible exact Below.refl _ _ | with_reducible refine c7 ?_ _)
theorem Kl (h1 l1 n : Int) (w : World) (H1 : cP h1 l1 n) :
    Calls aj 280 #[.agg #[.int .u64 h1, .int .u64 l1], .bool true] w (mJ (-n) w) := by
  go_enter Tryz.func280, Tryz.ntmps280
  go_wp2_with (go_at_call 245; refine (A0 _ _ _ _ _ _ _ pb (ago H1)).mono ?_; rintro e aT ⟨gJ, iu, rfl, hs, ab⟩; have zl := Below.cell ab (p := ⟨w.heap.size, 0, none⟩) (by (simp; omega)); have zF := Below.frozen ab (p := ⟨w.heap.size, 0, none⟩) (by (simp; omega)); have zm := Below.cell ab (p := ⟨w.heap.size, 1, none⟩) (by (simp; omega)); have zG := Below.frozen ab (p := ⟨w.heap.size, 1, none⟩) (by (simp; omega)); have CU := Below.cell ab (p := ⟨w.heap.size + 1, 0, none⟩) (by (simp; done)); have Dm := Below.frozen ab (p := ⟨w.heap.size + 1, 0, none⟩) (by (simp; done)); have CV := Below.cell ab (p := ⟨w.heap.size + 1, 1, none⟩) (by (simp; done)); have Dn := Below.frozen ab (p := ⟨w.heap.size + 1, 1, none⟩) (by (simp; done)); have oo := Below.size ab; (try simp at oo); have ym : ¬ aT.heap.size = w.heap.size := (by omega); have A6 : ¬ aT.heap.size = w.heap.size + 1 := (by omega))
  · refine bodyPost_ret (v := .tuple #[.agg #[.int .i64 0, .int .u64 0], .bool false]) (by simp only [results, Tryz.results280]; go_simp) rfl (wQ (af9 H1 hs ‹_› (by have h := ‹(!decide (gJ < 0)) = true›; simpa using h)) ?_)
    (repeat first | with_reducible exact Below.refl _ _ | with_reducible refine c7 ?_ _ | focus ((with_reducible refine eV ?_ _ _ _ ?_); rotate_left; omega) | with_reducible refine cc ?_ ab)
  · have ag := R4 H1 hs (.inr (by have h := ‹(!decide (gJ < 0)) = false›; simpa using h))
    refine bodyPost_ret (v := .tuple #[.agg #[.int .i64 gJ, .int .u64 iu], .bool true]) (by simp only [results, Tryz.results280]; go_simp) rfl (tu ag.1 ag.2 ?_);(repeat first | with_reducible exact Below.refl _ _ | with_reducible refine c7 ?_ _ | focus ((with_reducible refine eV ?_ _ _ _ ?_); rotate_left; omega) | with_reducible refine cc ?_ ab)
  · have ag := R4 H1 hs (.inl ‹_›)
    refine bodyPost_ret (v := .tuple #[.agg #[.int .i64 gJ, .int .u64 iu], .bool true]) (by simp only [results, Tryz.results280]; go_simp) rfl (tu ag.1 ag.2 ?_);(repeat first | with_reducible exact Below.refl _ _ | with_reducible refine c7 ?_ _ | focus ((with_reducible refine eV ?_ _ _ _ ?_); rotate_left; omega) | with_reducible refine cc ?_ ab)
theorem Sa (h1 l1 n : Int) (b : Bool) (w : World) (H1 : cP h1 l1 n) :
    Calls aj 280 #[.agg #[.int .u64 h1, .int .u64 l1], .bool b] w (mJ (if b then -n else n) w) := by
  cases b
  · exact Km h1 l1 n w H1
  · exact Kl h1 l1 n w H1
theorem abT (h1 l1 n h2 l2 m : Int) (w : World) (H1 : cP h1 l1 n) (bZ : cP h2 l2 m) :
    Calls aj 304 #[.agg #[.int .u64 h1, .int .u64 l1], .agg #[.int .u64 h2, .int .u64 l2]] w (hD (.bool (decide (n < m))) w) := by
  go_enter Tryz.func304, Tryz.ntmps304
  go_wp2
  all_goals
    go_ret
    refine ⟨RF ?_, by (repeat first | with_reducible exact Below.refl _ _ | with_reducible refine c7 ?_ _)⟩;obtain ⟨b1, b2, aG⟩ := H1;obtain ⟨ey, dQ, aM⟩ := bZ;rw [mC];simp only [cL, true_iff, oC, false_iff];omega
theorem agM (h1 l1 h2 l2 : Int) (b1 : 0 ≤ h1 ∧ h1 < 18446744073709551616) (b2 : 0 ≤ l1 ∧ l1 < 18446744073709551616)
   (ey : 0 ≤ h2 ∧ h2 < 18446744073709551616) (dQ : 0 ≤ l2 ∧ l2 < 18446744073709551616) (hle : h2 * 18446744073709551616 + l2 ≤ h1 * 18446744073709551616 + l1) :
   cP ((h1 - h2 - -((l1 - l2 - 0) / 18446744073709551616)) % 18446744073709551616) ((l1 - l2 - 0) % 18446744073709551616) ((h1 * 18446744073709551616 + l1) - (h2 * 18446744073709551616 + l2)) := by
  unfold cP;omega
theorem Sg (h1 l1 n h2 l2 m : Int) (w : World) (H1 : cP h1 l1 n) (bZ : cP h2 l2 m) (hle : m ≤ n) :
    Calls aj 303 #[.agg #[.int .u64 h1, .int .u64 l1], .agg #[.int .u64 h2, .int .u64 l2]] w (aN (n - m) w) := by
  obtain ⟨b1, b2, rfl⟩ := H1;obtain ⟨ey, dQ, rfl⟩ := bZ;have hv := agM h1 l1 h2 l2 b1 b2 ey dQ hle;have aG := fun w => FM l1 l2 0 b2.1 b2.2 dQ.1 dQ.2 (by omega) (by omega) w;have aM := fun w => FM h1 h2 (-((l1 - l2 - 0) / 18446744073709551616)) b1.1 b1.2 ey.1 ey.2 (by omega) (by omega) w;generalize -((l1 - l2 - 0) / 18446744073709551616) = c at *;generalize (l1 - l2 - 0) % 18446744073709551616 = s at *;generalize (h1 - h2 - c) % 18446744073709551616 = s' at *;generalize -((h1 - h2 - c) / 18446744073709551616) = c' at *;generalize (h1 * 18446744073709551616 + l1) - (h2 * 18446744073709551616 + l2) = Qe at *;clear b1 b2 ey dQ hle
  go_enter Tryz.func303, Tryz.ntmps303
  go_wp2
  refine bodyPost_ret (v := .agg #[.int .u64 s', .int .u64 s]) (by simp only [results, Tryz.results303]; go_simp) rfl ⟨_, _, rfl, hv, ?_⟩;(repeat first | with_reducible exact Below.refl _ _ | with_reducible refine c7 ?_ _)
end Go.Proofs.YtpochbhajmbfdaaGreat
namespace Go.Proofs.YtpochbhajmbfdaaGreat
def qW (n len : Nat) : Prop := (n = 0 ∧ len = 0) ∨ (1 ≤ len ∧ len ≤ 128 ∧ 2 ^ (len - 1) ≤ n ∧ n < 2 ^ len)
theorem rT : (2 : Nat) ^ 64 = 18446744073709551616 := by decide
theorem Ss : (2 : Nat) ^ 128 = 340282366920938463463374607431768211456 := by decide
theorem Ph (l : Nat) (h : l < 18446744073709551616) : qW l (Lib.bitLen l) := by
  by_cases e : l = 0
  · subst e
    exact .inl ⟨rfl, Lib.bitLenAux_zero 64⟩
  · obtain ⟨a, b, c⟩ := Lib.bitLenAux_bounds 64 l (by rw [rT]; exact h) e
    have d : Lib.bitLen l ≤ 64 := Lib.bitLen_le l 64 (eb _) (by rw [rT]; exact h);exact .inr ⟨a, by omega, b, c⟩
theorem abP (h l : Nat) (aJ : h ≠ 0) (aW : h < 18446744073709551616) (ap : l < 18446744073709551616) : qW (h * 18446744073709551616 + l) (64 + Lib.bitLen h) ∧ Lib.bitLen h ≤ 64 := by
  obtain ⟨a, b, c⟩ := Lib.bitLenAux_bounds 64 h (by rw [rT]; exact aW) aJ;have d : Lib.bitLen h ≤ 64 := Lib.bitLen_le h 64 (eb _) (by rw [rT]; exact aW);have e : Lib.bitLenAux 64 h = Lib.bitLen h := rfl;rw [e] at a b c;refine ⟨.inr ⟨by omega, by omega, ?_, ?_⟩, d⟩
  · rw [show 64 + Lib.bitLen h - 1 = (Lib.bitLen h - 1) + 64 by omega, Nat.pow_add, rT]
    generalize 2 ^ (Lib.bitLen h - 1) = P at *;omega
  · rw [show 64 + Lib.bitLen h = Lib.bitLen h + 64 by omega, Nat.pow_add, rT]
    generalize 2 ^ Lib.bitLen h = P at *;omega
theorem abQ {n len : Nat} (h : qW n len) : len ≤ 128 := by rcases h with h | h <;> omega
theorem abR {n len k : Nat} (h : qW n len) (aJ : n ≠ 0) (ae : 128 < k + len) : 340282366920938463463374607431768211456 ≤ n * 2 ^ k := by
  rcases h with h | ⟨a, b, c, d⟩
  · omega
  · have h1 := kC (2 ^ k) c
    rw [← Nat.pow_add] at h1;have h2 : 2 ^ 128 ≤ 2 ^ (len - 1 + k) := Nat.pow_le_pow_right (by decide) (by omega);rw [Ss] at h2;omega
theorem abS {n len k : Nat} (h : qW n len) (ae : k + len ≤ 128) : n * 2 ^ k < 340282366920938463463374607431768211456 := by
  rcases h with ⟨rfl, rfl⟩ | ⟨a, b, c, d⟩
  · simp
  · have h1 := Nat.mul_lt_mul_of_pos_right d (Nat.two_pow_pos k)
    rw [← Nat.pow_add] at h1;have h2 : 2 ^ (len + k) ≤ 2 ^ 128 := Nat.pow_le_pow_right (by decide) (by omega);rw [Ss] at h2;omega
theorem agh (h l k : Nat) (ap : l < 18446744073709551616) (ae : k < 64) (ab : (h * 18446744073709551616 + l) * 2 ^ k < 340282366920938463463374607431768211456) :
    h * 2 ^ k < 18446744073709551616 ∧ l / 2 ^ (64 - k) < 2 ^ k ∧ h * 2 ^ k + l / 2 ^ (64 - k) < 18446744073709551616 ∧
    (h * 18446744073709551616 + l) * 2 ^ k = (h * 2 ^ k + l / 2 ^ (64 - k)) * 18446744073709551616 + (l * 2 ^ k) % 18446744073709551616 := by
  have JR : 2 ^ k * 2 ^ (64 - k) = 18446744073709551616 := by rw [← Nat.pow_add, show k + (64 - k) = 64 by omega, rT]
  have aeW : 0 < 2 ^ k := Nat.two_pow_pos k;have Ru : 0 < 2 ^ (64 - k) := Nat.two_pow_pos _;generalize 2 ^ k = p at *;generalize 2 ^ (64 - k) = q at *;have hd : l / q < p := by rw [Nat.div_lt_iff_lt_mul Ru, JR]; exact ap
  have aG : l * p = 18446744073709551616 * (l / q) + p * (l % q) := by
    conv => lhs; rw [← Nat.div_add_mod l q]
    rw [kB, ← JR, Nat.mul_comm (l % q) p, Nat.mul_assoc p q, Nat.mul_comm (q * (l / q)) p]
  have aM : p * (l % q) < 18446744073709551616 := by rw [← JR]; exact Nat.mul_lt_mul_of_pos_left (Nat.mod_lt _ Ru) aeW
  have cD : (l * p) % 18446744073709551616 = p * (l % q) := by rw [aG, Nat.mul_add_mod, Nat.mod_eq_of_lt aM]
  have eR : (h * 18446744073709551616 + l) * p = h * p * 18446744073709551616 + l * p := by rw [kB, Nat.mul_right_comm]
  rw [eR] at ab;refine ⟨by omega, hd, by omega, ?_⟩;rw [eR, cD, kB];omega
theorem JE (h l k : Nat) (h1 : h * 2 ^ k < 18446744073709551616) (h2 : l < 2 ^ k) (ao : h * 2 ^ k + l < 18446744073709551616) :
    bits .or .u64 ((h * 2 ^ k : Nat) : Int) (l : Int) = ((h * 2 ^ k + l : Nat) : Int) := by
  rw [bits_or_u64_nat _ _ h1 (by omega), Nat.mul_comm h, ← Nat.two_pow_add_eq_or_of_lt h2]
theorem R7 (h l k : Int) (vE : 0 ≤ h) (tP : 0 ≤ l ∧ l < 18446744073709551616) (LW : 0 ≤ k ∧ k < 64) (ab : (h * 18446744073709551616 + l) * 2 ^ k.toNat < 340282366920938463463374607431768211456) :
    ∃ H, bits .or .u64 (IntKind.u64.wrap (h * 2 ^ k.toNat)) (l / 2 ^ (64 - k).toNat) = H ∧ (0 ≤ H ∧ H < 18446744073709551616) ∧ (h * 18446744073709551616 + l) * 2 ^ k.toNat = H * 18446744073709551616 + IntKind.u64.wrap (l * 2 ^ k.toNat) := by
  obtain ⟨a, rfl⟩ := ng vE;obtain ⟨b, rfl⟩ := ng tP.1;obtain ⟨c, rfl⟩ := ng LW.1;have GN : c < 64 := by omega
  rw [show (64 - (c : Int)).toNat = 64 - c by omega, k6] at *
  have cV : (a * 18446744073709551616 + b) * 2 ^ c < 340282366920938463463374607431768211456 := by
    have e : ((a : Int) * 18446744073709551616 + b) * 2 ^ c = (((a * 18446744073709551616 + b) * 2 ^ c : Nat) : Int) := by simp
    rw [e] at ab;omega
  obtain ⟨s1, s2, bU, bX⟩ := agh a b c (by omega) GN cV
  have aT : IntKind.u64.wrap ((a : Int) * 2 ^ c) = ((a * 2 ^ c : Nat) : Int) := by
    rw [show (a : Int) * 2 ^ c = ((a * 2 ^ c : Nat) : Int) by simp, IntKind.wrap_u64];omega
  have w2 : (b : Int) / 2 ^ (64 - c) = ((b / 2 ^ (64 - c) : Nat) : Int) := by simp
  have w3 : IntKind.u64.wrap ((b : Int) * 2 ^ c) = ((b * 2 ^ c % 18446744073709551616 : Nat) : Int) := by
    rw [show (b : Int) * 2 ^ c = ((b * 2 ^ c : Nat) : Int) by simp, IntKind.wrap_u64];omega
  refine ⟨_, rfl, ?_, ?_⟩
  · rw [aT, w2, JE _ _ _ s1 s2 bU]
    omega
  · rw [aT, w2, JE _ _ _ s1 s2 bU, w3]
    rw [show ((a : Int) * 18446744073709551616 + b) * 2 ^ c = (((a * 18446744073709551616 + b) * 2 ^ c : Nat) : Int) by simp, bX];omega
theorem agf (h l k : Int) (vE : 0 ≤ h) (tP : 0 ≤ l) (LW : 64 ≤ k) (ab : (h * 18446744073709551616 + l) * 2 ^ k.toNat < 340282366920938463463374607431768211456) :
    (0 ≤ IntKind.u64.wrap (l * 2 ^ (k - 64).toNat) ∧ IntKind.u64.wrap (l * 2 ^ (k - 64).toNat) < 18446744073709551616) ∧ (h * 18446744073709551616 + l) * 2 ^ k.toNat = IntKind.u64.wrap (l * 2 ^ (k - 64).toNat) * 18446744073709551616 + 0 := by
  obtain ⟨a, rfl⟩ := ng vE;obtain ⟨b, rfl⟩ := ng tP;obtain ⟨c, rfl⟩ : ∃ c : Nat, k = c + 64 := ⟨(k - 64).toNat, by omega⟩;rw [show ((c : Int) + 64 - 64).toNat = c by omega, show ((c : Int) + 64).toNat = c + 64 by omega] at *
  have e : ((a : Int) * 18446744073709551616 + b) * 2 ^ (c + 64) = (((a * 18446744073709551616 + b) * 2 ^ c * 18446744073709551616 : Nat) : Int) := by
    rw [Int.pow_add, ← lD];simp
  rw [e] at ab ⊢;rw [show (b : Int) * 2 ^ c = ((b * 2 ^ c : Nat) : Int) by simp, IntKind.wrap_u64];have hp : 0 < 2 ^ c := Nat.two_pow_pos c
  have aI : a = 0 := by
    rcases u3 a with h | h
    · exact h
    · exfalso
      have h1 : 18446744073709551616 * 1 ≤ (a * 18446744073709551616 + b) * 2 ^ c := Nat.mul_le_mul (by omega) hp;omega
  subst aI;rw [Nat.zero_mul, ju] at *;omega
end Go.Proofs.YtpochbhajmbfdaaGreat
namespace Go.Proofs.YtpochbhajmbfdaaGreat
open Go.RowKit
def TW (n : Int) (w : World) (e : Ending) (w' : World) : Prop := ∃ H L, e = .returned (.tuple #[.int .u64 H, .int .u64 L]) ∧ cP H L n ∧ w = w'
theorem acv {x y : Nat} (aa : x < 18446744073709551616) (ag : y < 18446744073709551616) : x * y < 18446744073709551616 * 18446744073709551616 := Nat.mul_lt_mul'' aa ag
theorem yk (x y : Int) (w : World) (aa : 0 ≤ x ∧ x < 18446744073709551616) (ag : 0 ≤ y ∧ y < 18446744073709551616) :
    Calls aj 258 #[.int .u64 x, .int .u64 y] w (TW (x * y) w) := by
  obtain ⟨X, rfl⟩ := ng aa.1;obtain ⟨Y, rfl⟩ := ng ag.1;refine (Tryz.bits_Mul64 X Y (by omega) (by omega) w).mono ?_;rintro e w' ⟨rfl, rfl⟩;have ap := acv (x := X) (y := Y) (by omega) (by omega);refine ⟨_, _, rfl, ?_, rfl⟩;rw [show (X : Int) * (Y : Int) = ((X * Y : Nat) : Int) from (Int.natCast_mul X Y).symm];generalize X * Y = p at *;unfold cP;omega
def lm (n : Int) : Bool := decide (n < 340282366920938463463374607431768211456)
def xg (n : Int) (w : World) (e : Ending) (w' : World) : Prop := ∃ H L, e = .returned (.tuple #[.agg #[.int .u64 H, .int .u64 L], .bool (lm n)]) ∧ cP H L (if lm n then n else 0) ∧ Below w.heap.size w w'
theorem RT {n H L : Int} {w w' : World} (h : lm n = true) (k : cP H L n) (b : Below w.heap.size w w') : xg n w (.returned (.tuple #[.agg #[.int .u64 H, .int .u64 L], .bool true])) w' := ⟨H, L, by rw [h], by rw [h]; exact k, b⟩
theorem Br {n : Int} {w w' : World} (h : lm n = false) (b : Below w.heap.size w w') : xg n w (.returned (.tuple #[.agg #[.int .u64 0, .int .u64 0], .bool false])) w' := ⟨0, 0, by rw [h], by rw [h]; exact AJ, b⟩
theorem Vx {h1 l1 n h2 l2 m : Int} (H1 : cP h1 l1 n) (bZ : cP h2 l2 m) (bC : h1 ≠ 0) (cd : h2 ≠ 0) : lm (n * m) = false := by
  obtain ⟨b1, b2, aG⟩ := H1;obtain ⟨ey, dQ, aM⟩ := bZ;have aD : 18446744073709551616 ≤ n := by omega
  have hm : 18446744073709551616 ≤ m := by omega
  have h := tk aD hm (by omega) (by omega);unfold lm;rw [l0];omega
theorem acw (h1 l1 n h2 l2 m : Int) (w : World) (H1 : cP h1 l1 n) (bZ : cP h2 l2 m) (bC : h1 ≠ 0) (cd : h2 ≠ 0) :
    Calls aj 278 #[.agg #[.int .u64 h1, .int .u64 l1], .agg #[.int .u64 h2, .int .u64 l2]] w (xg (n * m) w) := by
  have aD := Lib.hid (Vx H1 bZ bC cd);have b1 : (h1 != 0) = true := by simpa using bC
  have b2 : (h2 != 0) = true := by simpa using cd
  clear bC cd
  go_enter Tryz.func278, Tryz.ntmps278
  go_wp2
  refine bodyPost_ret (v := .tuple #[.agg #[.int .u64 0, .int .u64 0], .bool false]) (by simp only [results, Tryz.results278]; go_simp) rfl (Br aD.out ?_);(repeat first | with_reducible exact Below.refl _ _ | with_reducible refine c7 ?_ _)
theorem OO {a b : Int} (h : cP a b 0) : a = 0 ∧ b = 0 := by
  obtain ⟨b1, b2, e⟩ := h;omega
theorem PY {o u q hi lo p N : Int} (A : cP o u q) (C : cP hi lo p) (e : N = q * 18446744073709551616 + p) :
    (¬ o = 0 → lm N = false) ∧ (o = 0 → ((hi + u) / 18446744073709551616 != 0) = true → lm N = false) ∧
    (o = 0 → ((hi + u) / 18446744073709551616 != 0) = false → lm N = true ∧ cP ((hi + u) % 18446744073709551616) lo N) := by
  obtain ⟨a1, a2, rfl⟩ := A;obtain ⟨b1, b2, rfl⟩ := C;unfold lm cP;simp only [bne_iff_ne, bne_eq_false_iff_eq, cL, l0];omega
theorem QI (x : Int) (h : 0 ≤ x ∧ x < 18446744073709551616) : bits .or .u64 0 x = x ∧ bits .or .u64 x 0 = x := by
  obtain ⟨X, rfl⟩ := ng h.1;have h1 := bits_or_u64_nat 0 X (by omega) (by omega);have h2 := bits_or_u64_nat X 0 (by omega) (by omega);rw [Nat.zero_or] at h1;rw [Nat.or_zero] at h2;exact ⟨h1, h2⟩
theorem acx (l1 n h2 l2 m : Int) (w : World) (H1 : cP 0 l1 n) (bZ : cP h2 l2 m) :
    Calls aj 278 #[.agg #[.int .u64 0, .int .u64 l1], .agg #[.int .u64 h2, .int .u64 l2]] w (xg (n * m) w) := by
  have kk := H1.1; have z2 := H1.2.1; have z3 := bZ.1; have z4 := bZ.2.1
  go_enter Tryz.func278, Tryz.ntmps278
  go_wp2_with fail
  refine (yk _ _ _ kk z4).mono ?_;rintro e aT ⟨adg, FR, rfl, ej, rfl⟩;rw [Int.zero_mul] at ej;obtain ⟨rfl, rfl⟩ := OO ej;clear ej
  go_wp2_with fail
  refine (yk _ _ _ z2 z3).mono ?_;rintro e aT ⟨adh, FT, rfl, fG, rfl⟩
  go_wp2_with fail
  refine (yk _ _ _ z2 z4).mono ?_;rintro e aT ⟨hi, lo, rfl, hC, rfl⟩;have o1 := (QI FT fG.2.1).1;have aG := fun w => CB hi FT 0 hC.1.1 fG.2.1.1 (by omega) (by omega) w;rw [Int.add_zero] at aG
  have sK := PY (N := n * m) fG hC (by
    rw [H1.2.2, bZ.2.2, Int.zero_mul, Int.zero_add, Int.mul_add, ← lD])
  obtain ⟨q1, q2, cr⟩ := sK;have kN := Lib.hid q1; have np := Lib.hid q2; have Gj := Lib.hid cr;clear q1 q2 cr kk z2 z3 z4
  go_wp2
  · refine bodyPost_ret (v := .tuple #[.agg #[.int .u64 0, .int .u64 0], .bool false]) (by simp only [results, Tryz.results278]; go_simp) rfl (Br (kN.out ‹_›) ?_)
    (repeat first | with_reducible exact Below.refl _ _ | with_reducible refine c7 ?_ _)
  · refine bodyPost_ret (v := .tuple #[.agg #[.int .u64 0, .int .u64 0], .bool false]) (by simp only [results, Tryz.results278]; go_simp) rfl (Br (np.out ‹_› ‹_›) ?_)
    (repeat first | with_reducible exact Below.refl _ _ | with_reducible refine c7 ?_ _)
  · have ag := Gj.out ‹_› ‹_›
    refine bodyPost_ret (v := .tuple #[.agg #[.int .u64 ((hi + FT) % 18446744073709551616), .int .u64 lo], .bool true]) (by simp only [results, Tryz.results278]; go_simp) rfl (RT ag.1 ag.2 ?_);(repeat first | with_reducible exact Below.refl _ _ | with_reducible refine c7 ?_ _)
theorem acy (h1 l1 n l2 m : Int) (w : World) (H1 : cP h1 l1 n) (bZ : cP 0 l2 m) (k : h1 ≠ 0) :
    Calls aj 278 #[.agg #[.int .u64 h1, .int .u64 l1], .agg #[.int .u64 0, .int .u64 l2]] w (xg (n * m) w) := by
  have kk := H1.1; have z2 := H1.2.1; have z3 := bZ.1; have z4 := bZ.2.1;have abo : (h1 != 0) = true := by simpa using k
  clear k
  go_enter Tryz.func278, Tryz.ntmps278
  go_wp2_with fail
  refine (yk _ _ _ kk z4).mono ?_;rintro e aT ⟨adg, FR, rfl, ej, rfl⟩
  go_wp2_with fail
  refine (yk _ _ _ z2 z3).mono ?_;rintro e aT ⟨adh, FT, rfl, fG, rfl⟩;rw [Int.mul_zero] at fG;obtain ⟨rfl, rfl⟩ := OO fG;clear fG
  go_wp2_with fail
  refine (yk _ _ _ z2 z4).mono ?_;rintro e aT ⟨hi, lo, rfl, hC, rfl⟩;have o1 := (QI FR ej.2.1).2;have aG := fun w => CB hi FR 0 hC.1.1 ej.2.1.1 (by omega) (by omega) w;rw [Int.add_zero] at aG
  have sK := PY (N := n * m) ej hC (by
    rw [H1.2.2, bZ.2.2, Int.zero_mul, Int.zero_add, Int.add_mul, Int.mul_right_comm])
  obtain ⟨q1, q2, cr⟩ := sK;have kN := Lib.hid q1; have np := Lib.hid q2; have Gj := Lib.hid cr;clear q1 q2 cr kk z2 z3 z4
  go_wp2
  · refine bodyPost_ret (v := .tuple #[.agg #[.int .u64 0, .int .u64 0], .bool false]) (by simp only [results, Tryz.results278]; go_simp) rfl (Br (kN.out ‹_›) ?_)
    (repeat first | with_reducible exact Below.refl _ _ | with_reducible refine c7 ?_ _)
  · refine bodyPost_ret (v := .tuple #[.agg #[.int .u64 0, .int .u64 0], .bool false]) (by simp only [results, Tryz.results278]; go_simp) rfl (Br (np.out ‹_› ‹_›) ?_)
    (repeat first | with_reducible exact Below.refl _ _ | with_reducible refine c7 ?_ _)
  · have ag := Gj.out ‹_› ‹_›
    refine bodyPost_ret (v := .tuple #[.agg #[.int .u64 ((hi + FR) % 18446744073709551616), .int .u64 lo], .bool true]) (by simp only [results, Tryz.results278]; go_simp) rfl (RT ag.1 ag.2 ?_);(repeat first | with_reducible exact Below.refl _ _ | with_reducible refine c7 ?_ _)
theorem PZ (h1 l1 n h2 l2 m : Int) (w : World) (H1 : cP h1 l1 n) (bZ : cP h2 l2 m) :
    Calls aj 278 #[.agg #[.int .u64 h1, .int .u64 l1], .agg #[.int .u64 h2, .int .u64 l2]] w (xg (n * m) w) := by
  by_cases bC : h1 = 0
  · subst bC; exact acx l1 n h2 l2 m w H1 bZ
  · by_cases cd : h2 = 0
    · subst cd; exact acy h1 l1 n l2 m w H1 bZ bC
    · exact acw h1 l1 n h2 l2 m w H1 bZ bC cd
def TU (n : Int) (w : World) (e : Ending) (w' : World) : Prop := ∃ k : Nat, e = .returned (.int .i64 k) ∧ qW n.toNat k ∧ Below w.heap.size w w'
theorem Vv (h : Int) (b : 0 ≤ h ∧ h < 18446744073709551616) : Lib.bitLen h.toNat ≤ 64 := Lib.bitLen_le _ 64 (eb _) (by rw [rT]; omega)
theorem abO (h1 l1 n : Int) (w : World) (H1 : cP h1 l1 n) :
    Calls aj 291 #[.agg #[.int .u64 h1, .int .u64 l1]] w (TU n w) := by
  obtain ⟨b1, b2, e⟩ := H1;have q1 := Vv h1 b1
  by_cases k : h1 = 0
  · subst k
    have ap : Hid (qW n.toNat (Lib.bitLen l1.toNat)) := by
      rw [e, show (0 * 18446744073709551616 + l1).toNat = l1.toNat by omega];exact Ph _ (by omega)
    clear e
    go_enter Tryz.func291, Tryz.ntmps291
    go_wp2_with (go_at_call 300; refine (Tryz.bits_Len64 _ _ (by omega) (by omega)).mono ?_; rintro e w' ⟨rfl, rfl⟩)
    go_ret
    exact ⟨_, rfl, ap.out, by (repeat first | with_reducible exact Below.refl _ _ | with_reducible refine c7 ?_ _)⟩
  · have ap : Hid (qW n.toNat (64 + Lib.bitLen h1.toNat)) := by
      rw [e, show (h1 * 18446744073709551616 + l1).toNat = h1.toNat * 18446744073709551616 + l1.toNat by omega];exact (abP _ _ (by omega) (by omega) (by omega)).1
    have abo : (h1 != 0) = true := by simpa using k
    clear e k
    go_enter Tryz.func291, Tryz.ntmps291
    go_wp2_with (go_at_call 300; refine (Tryz.bits_Len64 _ _ (by omega) (by omega)).mono ?_; rintro e w' ⟨rfl, rfl⟩)
    go_ret
    exact ⟨_, by simp, ap.out, by (repeat first | with_reducible exact Below.refl _ _ | with_reducible refine c7 ?_ _)⟩
theorem agd (h1 l1 n k : Int) (w : World) (H1 : cP h1 l1 n) (hK : 64 ≤ k) (bC : k < 128) (ab : n * 2 ^ k.toNat < 340282366920938463463374607431768211456) :
    Calls aj 292 #[.agg #[.int .u64 h1, .int .u64 l1], .int .u64 k] w (aN (n * 2 ^ k.toNat) w) := by
  obtain ⟨b1, b2, e⟩ := H1;rw [e] at ab ⊢;have r9 := Lib.hid (agf h1 l1 k b1.1 b2.1 hK ab);clear e ab b1 b2
  go_enter Tryz.func292, Tryz.ntmps292
  go_wp2
  refine bodyPost_ret (v := .agg #[.int .u64 (IntKind.u64.wrap (l1 * 2 ^ (k - 64).toNat)), .int .u64 0]) (by simp only [results, Tryz.results292]; go_simp) rfl ⟨_, _, rfl, ⟨r9.out.1, by omega, r9.out.2⟩, ?_⟩;(repeat first | with_reducible exact Below.refl _ _ | with_reducible refine c7 ?_ _)
theorem age (h1 l1 n k : Int) (w : World) (H1 : cP h1 l1 n) (hK : 0 ≤ k) (bC : k < 64) (ab : n * 2 ^ k.toNat < 340282366920938463463374607431768211456) :
    Calls aj 292 #[.agg #[.int .u64 h1, .int .u64 l1], .int .u64 k] w (aN (n * 2 ^ k.toNat) w) := by
  obtain ⟨b1, b2, e⟩ := H1;rw [e] at ab ⊢;obtain ⟨H, ic, nC, Ox⟩ := R7 h1 l1 k b1.1 b2 ⟨hK, bC⟩ ab;have Tx := Lib.hid ic;have Ty := Lib.hid Ox;clear e ab b1 b2 ic Ox
  go_enter Tryz.func292, Tryz.ntmps292
  go_wp2
  refine bodyPost_ret (v := .agg #[.int .u64 (bits BinOp.or IntKind.u64 (IntKind.u64.wrap (h1 * 2 ^ k.toNat)) (l1 / 2 ^ (64 - k).toNat)), .int .u64 (IntKind.u64.wrap (l1 * 2 ^ k.toNat))]) (by simp only [results, Tryz.results292]; go_simp) rfl ⟨_, _, rfl, ?_, ?_⟩
  · rw [Tx.out]
    exact ⟨nC, wZ _, Ty.out⟩
  · (repeat first | with_reducible exact Below.refl _ _ | with_reducible refine c7 ?_ _)
theorem R6 (h1 l1 n k : Int) (w : World) (H1 : cP h1 l1 n) (hK : 0 ≤ k) (bC : k < 128) (ab : n * 2 ^ k.toNat < 340282366920938463463374607431768211456) :
    Calls aj 292 #[.agg #[.int .u64 h1, .int .u64 l1], .int .u64 k] w (aN (n * 2 ^ k.toNat) w) := by
  by_cases h : k < 64
  · exact age h1 l1 n k w H1 hK h ab
  · exact agd h1 l1 n k w H1 (by omega) bC ab
end Go.Proofs.YtpochbhajmbfdaaGreat
namespace Go.Proofs.YtpochbhajmbfdaaGreat
open Go.RowKit
theorem sign_mul {h1 l1 n h2 l2 m : Int} (H1 : bz h1 l1 n) (bZ : bz h2 l2 m) : (if (!decide (h1 < 0) == decide (h2 < 0)) = true then -((n.natAbs : Int) * (m.natAbs : Int)) else (n.natAbs : Int) * (m.natAbs : Int)) = n * m := by
  have bC := H1.neg; have cd := bZ.neg;rcases qD n 0 with a | a <;> rcases qD m 0 with b | b
  · obtain ⟨x, rfl⟩ : ∃ x : Nat, n = -(x : Int) := ⟨n.natAbs, by omega⟩
    obtain ⟨y, rfl⟩ : ∃ y : Nat, m = -(y : Int) := ⟨m.natAbs, by omega⟩;simp [bC.2 a, cd.2 b, Int.neg_mul, Int.mul_neg]
  · obtain ⟨x, rfl⟩ : ∃ x : Nat, n = -(x : Int) := ⟨n.natAbs, by omega⟩
    obtain ⟨y, rfl⟩ : ∃ y : Nat, m = (y : Int) := ⟨m.natAbs, by omega⟩;have : ¬ h2 < 0 := by omega
    simp [bC.2 a, this, Int.neg_mul]
  · obtain ⟨x, rfl⟩ : ∃ x : Nat, n = (x : Int) := ⟨n.natAbs, by omega⟩
    obtain ⟨y, rfl⟩ : ∃ y : Nat, m = -(y : Int) := ⟨m.natAbs, by omega⟩;have : ¬ h1 < 0 := by omega
    simp [cd.2 b, this, Int.mul_neg]
  · obtain ⟨x, rfl⟩ : ∃ x : Nat, n = (x : Int) := ⟨n.natAbs, by omega⟩
    obtain ⟨y, rfl⟩ : ∃ y : Nat, m = (y : Int) := ⟨m.natAbs, by omega⟩;have t1 : ¬ h1 < 0 := by omega
    have t2 : ¬ h2 < 0 := by omega
    simp [t1, t2]
theorem agm {h1 l1 n h2 l2 m : Int} (H1 : bz h1 l1 n) (bZ : bz h2 l2 m) (h : lm (n.natAbs * m.natAbs) = false) : fits (n * m) = false := by
  have e : (n.natAbs : Int) * m.natAbs = ((n * m).natAbs : Int) := by rw [Int.natAbs_mul, Int.natCast_mul]
  rw [e] at h;unfold lm at h;unfold fits;rw [l0] at *;omega
theorem agq {h1 l1 n h2 l2 m ph pl P : Int} (w : World) (H1 : bz h1 l1 n) (bZ : bz h2 l2 m) (e : Hid (P = n.natAbs * m.natAbs)) (hp : cP ph pl P) :
    Calls aj 280 #[.agg #[.int .u64 ph, .int .u64 pl], .bool (!decide (h1 < 0) == decide (h2 < 0))] w (mJ (n * m) w) := by
  rw [← sign_mul H1 bZ, ← e.out];exact Sa ph pl P _ w hp
def TL (w : World) (N : Int) (a b c d : Value) (qL wU : Value) (fM : World) : Prop :=
  ∃ (g : Nat) (ph pl : Int), qL = .pointer (some ⟨g, 0, none⟩) ∧ wU = .bool (lm N) ∧ w.heap.size + 3 ≤ g ∧ cP ph pl (if lm N then N else 0) ∧
    ah fM g (.int .u64 ph) (.int .u64 pl) ∧ ah fM w.heap.size a b ∧ ah fM (w.heap.size + 1) c d ∧ ah fM (w.heap.size + 1 + 1) (.int .i64 0) (.int .u64 0) ∧ g < fM.heap.size ∧ Below w.heap.size w fM
theorem TM (h1 l1 n h2 l2 m : Int) (w : World) (H1 : bz h1 l1 n) (bZ : bz h2 l2 m) :
    Calls aj 246 #[.agg #[.int .i64 h1, .int .u64 l1], .agg #[.int .i64 h2, .int .u64 l2]] w (mJ (n * m) w) := by
  have ada : ¬ w.heap.size + 1 + 1 + 1 = w.heap.size := by omega
  have ac9 : ¬ w.heap.size + 1 + 1 = w.heap.size := by omega
  go_enter Tryz.func246, Tryz.ntmps246
  go_upto_region 1 with fail
  go_cut [6, 7] (fun qL wU fM => TL w (n.natAbs * m.natAbs) (.int .i64 h1) (.int .u64 l1) (.int .i64 h2) (.int .u64 l2) qL wU fM)
  case first =>
    have bq : ah (((w.alloc (.cells #[.int .i64 h1, .int .u64 l1] 159)).alloc (.cells #[.int .i64 h2, .int .u64 l2] 159)).alloc (.cells #[.int .i64 0, .int .u64 0] 159)) w.heap.size (.int .i64 h1) (.int .u64 l1) := by (repeat first | focus ((with_reducible refine ah.new ?_); simp; done) | with_reducible refine ah.alloc ?_ _)
    go_region_held3 (fun w' => (w'.cell? ⟨w.heap.size, 0, none⟩ = some (.int .i64 h1) ∧ w'.cell? ⟨w.heap.size, 1, none⟩ = some (.int .u64 l1)) ∧ (w'.cell? ⟨w.heap.size + 1, 0, none⟩ = some (.int .i64 h2) ∧ w'.cell? ⟨w.heap.size + 1, 1, none⟩ = some (.int .u64 l2))) (go_keep)
      (first
        | (go_at_call 279; ((with_reducible refine (BC h1 l1 n _ H1).mono ?_); rintro e aT ⟨BB, ags, rfl, o7, bE⟩; have gI : ah aT (w.heap.size) (.int .i64 h1) (.int .u64 l1) := (by (repeat first | with_reducible assumption | with_reducible refine ah.alloc ?_ _ | with_reducible refine ah.drew ?_ | with_reducible refine ah.call ?_ bE)); obtain ⟨⟨mi, mj⟩, mm, mn⟩ := id gI; have jV : ah aT (w.heap.size + 1) (.int .i64 h2) (.int .u64 l2) := (by (repeat first | focus ((with_reducible refine ah.new ?_); simp; done) | with_reducible refine ah.alloc ?_ _ | with_reducible refine ah.drew ?_ | with_reducible refine ah.call ?_ bE)); obtain ⟨⟨pX, p6⟩, qc, qe⟩ := id jV; have pJ : ah aT (w.heap.size + 1 + 1) (.int .i64 0) (.int .u64 0) := (by (repeat first | focus ((with_reducible refine ah.new ?_); simp; done) | with_reducible refine ah.alloc ?_ _ | with_reducible refine ah.drew ?_ | with_reducible refine ah.call ?_ bE)); obtain ⟨⟨xv, xC⟩, xH, xM⟩ := id pJ; (try ((refine lP (p := ah aT (w.heap.size + 1 + 1 + 1) (.int .u64 0) (.int .u64 0)) ?_ ?_); (repeat first | focus ((with_reducible refine ah.new ?_); simp; done) | with_reducible refine ah.alloc ?_ _ | with_reducible refine ah.drew ?_ | with_reducible refine ah.call ?_ bE); intro BV; obtain ⟨⟨ahJ, ah0⟩, air, aiF⟩ := id BV; have ajB := ah.lt BV; have aj0 := iX (ah.lt BV); have ajR := iY (ah.lt BV))); have mY := Below.size bE; (try simp at mY); have uP : ¬ aT.heap.size = w.heap.size := (by omega); have wD : ¬ aT.heap.size = w.heap.size + 1 := (by omega); have A3 : ¬ aT.heap.size = w.heap.size + 1 + 1 := (by omega); have ub : ¬ w.heap.size = aT.heap.size := (by omega); have vL : ¬ w.heap.size + 1 = aT.heap.size := (by omega); have zB : ¬ w.heap.size + 1 + 1 = aT.heap.size := (by omega); have uL : w.heap.size < aT.heap.size := (by omega); have wz : w.heap.size + 1 < aT.heap.size := (by omega); have AV : w.heap.size + 1 + 1 < aT.heap.size := (by omega)))
        | (go_at_call 279; ((with_reducible refine (BC h2 l2 m _ bZ).mono ?_); rintro e w2 ⟨FE, agt, rfl, Ao, b7⟩; have jy : ah w2 (w.heap.size) (.int .i64 h1) (.int .u64 l1) := (by (repeat first | with_reducible assumption | with_reducible refine ah.alloc ?_ _ | with_reducible refine ah.call ?_ b7)); obtain ⟨⟨pY, p7⟩, qd, qf⟩ := id jy; have ma : ah w2 (w.heap.size + 1) (.int .i64 h2) (.int .u64 l2) := (by (repeat first | with_reducible assumption | with_reducible refine ah.alloc ?_ _ | with_reducible refine ah.call ?_ b7)); obtain ⟨⟨tQ, tY⟩, ue, uj⟩ := id ma; have mb : ah w2 (w.heap.size + 1 + 1) (.int .i64 0) (.int .u64 0) := (by (repeat first | with_reducible assumption | with_reducible refine ah.alloc ?_ _ | with_reducible refine ah.call ?_ b7)); obtain ⟨⟨tR, tZ⟩, uf, uk⟩ := id mb; (try ((refine lP (p := ah w2 (w.heap.size + 1 + 1 + 1) (.int .u64 0) (.int .u64 0)) ?_ ?_); (repeat first | with_reducible assumption | with_reducible refine ah.alloc ?_ _ | with_reducible refine ah.drew ?_ | with_reducible refine ah.call ?_ b7 | with_reducible refine ah.call ?_ bE); intro r1; obtain ⟨⟨VL, Wt⟩, Xx, X0⟩ := id r1; have abw := ah.lt r1; have acG := iX (ah.lt r1); have ab8 := iY (ah.lt r1))); (try ((refine lP (p := ah w2 (aT.heap.size) (.int .u64 0) (.int .u64 0)) ?_ ?_); (repeat first | focus ((with_reducible refine ah.new ?_); simp; done) | with_reducible refine ah.alloc ?_ _ | with_reducible refine ah.drew ?_ | with_reducible refine ah.call ?_ b7 | with_reducible refine ah.call ?_ bE); intro r2; obtain ⟨⟨VM, Wu⟩, Xy, X1⟩ := id r2; have abx := ah.lt r2; have acH := iX (ah.lt r2); have ab9 := iY (ah.lt r2))); have oq := Below.size b7; (try simp at oq); have yl : ¬ w2.heap.size = w.heap.size := (by omega); have A4 : ¬ w2.heap.size = w.heap.size + 1 := (by omega); have EP : ¬ w2.heap.size = w.heap.size + 1 + 1 := (by omega); have xF : ¬ w.heap.size = w2.heap.size := (by omega); have zC : ¬ w.heap.size + 1 = w2.heap.size := (by omega); have Dc : ¬ w.heap.size + 1 + 1 = w2.heap.size := (by omega); have yg : w.heap.size < w2.heap.size := (by omega); have AW : w.heap.size + 1 < w2.heap.size := (by omega); have ED : w.heap.size + 1 + 1 < w2.heap.size := (by omega)))
        | (go_at_call 278; ((with_reducible refine (PZ _ _ _ _ _ _ _ o7 Ao).mono ?_); rintro e w3 ⟨ph, pl, rfl, hp, c9⟩; have mc : ah w3 (w.heap.size) (.int .i64 h1) (.int .u64 l1) := (by (repeat first | with_reducible assumption | with_reducible refine ah.alloc ?_ _ | with_reducible refine ah.call ?_ c9)); obtain ⟨⟨xw, xD⟩, xI, xN⟩ := id mc; have r3 : ah w3 (w.heap.size + 1) (.int .i64 h2) (.int .u64 l2) := (by (repeat first | with_reducible assumption | with_reducible refine ah.alloc ?_ _ | with_reducible refine ah.call ?_ c9)); obtain ⟨⟨CW, C8⟩, Dp, Dz⟩ := id r3; have w8 : ah w3 (w.heap.size + 1 + 1) (.int .i64 0) (.int .u64 0) := (by (repeat first | with_reducible assumption | with_reducible refine ah.alloc ?_ _ | with_reducible refine ah.call ?_ c9)); obtain ⟨⟨GS, G3⟩, Hj, Hu⟩ := id w8; (try ((refine lP (p := ah w3 (w.heap.size + 1 + 1 + 1) (.int .u64 0) (.int .u64 0)) ?_ ?_); (repeat first | with_reducible assumption | with_reducible refine ah.alloc ?_ _ | with_reducible refine ah.drew ?_ | with_reducible refine ah.call ?_ c9 | with_reducible refine ah.call ?_ b7 | with_reducible refine ah.call ?_ bE); intro r4; obtain ⟨⟨VO, Ww⟩, XA, X3⟩ := id r4; have aby := ah.lt r4; have acI := iX (ah.lt r4); have aca := iY (ah.lt r4))); (try ((refine lP (p := ah w3 (aT.heap.size) (.int .u64 0) (.int .u64 0)) ?_ ?_); (repeat first | with_reducible assumption | with_reducible refine ah.alloc ?_ _ | with_reducible refine ah.drew ?_ | with_reducible refine ah.call ?_ c9 | with_reducible refine ah.call ?_ b7 | with_reducible refine ah.call ?_ bE); intro r5; obtain ⟨⟨VP, Wx⟩, XB, X4⟩ := id r5; have abz := ah.lt r5; have acJ := iX (ah.lt r5); have acb := iY (ah.lt r5))); (try ((refine lP (p := ah w3 (w2.heap.size) (.int .u64 0) (.int .u64 0)) ?_ ?_); (repeat first | focus ((with_reducible refine ah.new ?_); simp; done) | with_reducible refine ah.alloc ?_ _ | with_reducible refine ah.drew ?_ | with_reducible refine ah.call ?_ c9 | with_reducible refine ah.call ?_ b7 | with_reducible refine ah.call ?_ bE); intro r6; obtain ⟨⟨VQ, Wy⟩, XC, X5⟩ := id r6; have abA := ah.lt r6; have acK := iX (ah.lt r6); have acd := iY (ah.lt r6))); have sU := Below.size c9; (try simp at sU); have A5 : ¬ w3.heap.size = w.heap.size := (by omega); have EQ : ¬ w3.heap.size = w.heap.size + 1 := (by omega); have JC : ¬ w3.heap.size = w.heap.size + 1 + 1 := (by omega); have zD : ¬ w.heap.size = w3.heap.size := (by omega); have Dd : ¬ w.heap.size + 1 = w3.heap.size := (by omega); have Hd : ¬ w.heap.size + 1 + 1 = w3.heap.size := (by omega); have AX : w.heap.size < w3.heap.size := (by omega); have EE : w.heap.size + 1 < w3.heap.size := (by omega); have Je : w.heap.size + 1 + 1 < w3.heap.size := (by omega))))
    all_goals
      go_wp2_with fail
      go_meet
      refine ⟨_, ph, pl, rfl, rfl, by omega, hp, ?_, ?_, ?_, ?_, ?_, ?_⟩
      · (repeat first | focus ((with_reducible refine ah.new ?_); simp; done) | with_reducible refine ah.put ?_ | focus ((with_reducible apply fE.of); with_reducible assumption))
      · (repeat first | with_reducible assumption | with_reducible refine ah.alloc ?_ _ | focus ((with_reducible refine ah.set ?_ _ ?_); rotate_left; omega))
      · (repeat first | with_reducible assumption | with_reducible refine ah.alloc ?_ _ | focus ((with_reducible refine ah.set ?_ _ ?_); rotate_left; omega))
      · (repeat first | with_reducible assumption | with_reducible refine ah.alloc ?_ _ | focus ((with_reducible refine ah.set ?_ _ ?_); rotate_left; omega))
      · first | (simp; done) | (simp; omega)
      · (repeat first | with_reducible exact Below.refl _ _ | with_reducible refine c7 ?_ _ | focus ((with_reducible refine eV ?_ _ _ _ ?_); rotate_left; omega) | with_reducible refine Below.drew ?_ | with_reducible refine cc ?_ c9 | with_reducible refine cc ?_ b7 | with_reducible refine cc ?_ bE)
  case rest =>
    obtain ⟨g, ph, pl, rfl, rfl, ax, hp, ⟨q1, q2⟩, ⟨cr, eE⟩, ⟨lZ, Bh⟩, ⟨Fg, Fh⟩, a6, ab⟩ := hcut;have akf : ¬ g = w.heap.size := by omega
    have akg : ¬ g = w.heap.size + 1 := by omega
    have akh : ¬ g = w.heap.size + 1 + 1 := by omega
    obtain ⟨ae1, ae2⟩ := q1; obtain ⟨JV, JW⟩ := q2; obtain ⟨ako, akp⟩ := cr; obtain ⟨akq, akr⟩ := eE; obtain ⟨aks, akt⟩ := lZ; obtain ⟨aku, akv⟩ := Bh; obtain ⟨ae5, ae6⟩ := Fg; obtain ⟨ae8, ae9⟩ := Fh;have IM : w.heap.size + 1 + 1 < wc.heap.size := by omega
    have Oc := agm H1 bZ;generalize fp : (n.natAbs : Int) * (m.natAbs : Int) = P at *;have r8 := Lib.hid fp.symm;have mH := Lib.hid Oc;clear fp Oc
    by_cases aw : lm P = true
    · rw [if_pos aw] at hp
      go_wp2_with (go_at_call 280; ((with_reducible refine (agq _ H1 bZ r8 hp).mono ?_); rintro e fD ⟨jO, jP, rfl, al, fa⟩; have SW : ah fD (w.heap.size + 1 + 1) (.int .i64 0) (.int .u64 0) := ah.call ⟨⟨ae5, ae6⟩, ae8, ae9⟩ fa; obtain ⟨⟨GR, d4⟩, f4, g4⟩ := id SW))
      refine bodyPost_ret (v := .tuple #[.agg #[.int .i64 jO, .int .u64 jP], .bool (fits (n * m))]) (by simp only [results, Tryz.results246]; go_simp) rfl ⟨jO, jP, rfl, al, ?_⟩;refine eV (eV (cc ab fa) _ _ _ (by omega)) _ _ _ (by omega)
    · have mq : lm P = false := by simpa using aw
      have hm := Lib.hid (mH.out mq);clear aw
      go_wp2
      refine bodyPost_ret (v := .tuple #[.agg #[.int .i64 0, .int .u64 0], .bool false]) (by simp only [results, Tryz.results246]; go_simp) rfl (wQ hm.out ?_);refine eV (eV ab _ _ _ (by omega)) _ _ _ (by omega)
end Go.Proofs.YtpochbhajmbfdaaGreat
namespace Go.Proofs.YtpochbhajmbfdaaGreat
open Go.RowKit
theorem agY {n m : Int} (aJ : -9223372036854775808 ≤ n) (h1 : n < 9223372036854775808) (hK : -9223372036854775808 ≤ m) (bC : m < 9223372036854775808) : fits (n * m) = true := by
  have a : n.natAbs ≤ 9223372036854775808 := by omega
  have b : m.natAbs ≤ 9223372036854775808 := by omega
  have c := Nat.mul_le_mul a b;rw [← Int.natAbs_mul] at c;unfold fits;rw [cL];omega
theorem Ud (n m : Int) (w : World) (aJ : -9223372036854775808 ≤ n) (h1 : n < 9223372036854775808) (hK : -9223372036854775808 ≤ m) (bC : m < 9223372036854775808) :
    Calls aj 222 #[.int .i64 n, .int .i64 m] w (pS (n * m) w) := by
  have Tw := Lib.hid (agY aJ h1 hK bC)
  go_enter Tryz.func222, Tryz.ntmps222
  go_wp2_with fail
  refine (sa n _ aJ h1).mono ?_;rintro e aT ⟨a1, b1, rfl, aD, bE⟩
  go_wp2_with fail
  refine (sa m _ hK bC).mono ?_;rintro e w2 ⟨a2, b2, rfl, hm, b7⟩
  go_wp2_with fail
  refine (TM _ _ _ _ _ _ _ aD hm).mono ?_;rintro e w3 ⟨a3, ey, rfl, hp, c9⟩;rw [if_pos Tw.out] at hp;have mc : ah w3 (w.heap.size) (.int .i64 0) (.int .u64 0) := (by (repeat first | focus ((with_reducible refine ah.new ?_); simp; done) | with_reducible refine ah.call ?_ c9 | with_reducible refine ah.call ?_ b7 | with_reducible refine ah.call ?_ bE)); obtain ⟨⟨xw, xD⟩, xI, xN⟩ := id mc; have mY := Below.size bE; (try simp at mY); have uP : ¬ aT.heap.size = w.heap.size := (by omega); have ub : ¬ w.heap.size = aT.heap.size := (by omega); have uL : w.heap.size < aT.heap.size := (by omega); have oq := Below.size b7; (try simp at oq); have yl : ¬ w2.heap.size = w.heap.size := (by omega); have xF : ¬ w.heap.size = w2.heap.size := (by omega); have yg : w.heap.size < w2.heap.size := (by omega); have sU := Below.size c9; (try simp at sU); have A5 : ¬ w3.heap.size = w.heap.size := (by omega); have zD : ¬ w.heap.size = w3.heap.size := (by omega); have AX : w.heap.size < w3.heap.size := (by omega)
  go_wp2
  refine bodyPost_ret (v := .agg #[.int .i64 a3, .int .u64 ey]) (by simp only [results, Tryz.results222]; go_simp) rfl ⟨_, _, rfl, hp, ?_⟩;(repeat first | with_reducible exact Below.refl _ _ | with_reducible refine c7 ?_ _ | focus ((with_reducible refine eV ?_ _ _ _ ?_); rotate_left; omega) | with_reducible refine cc ?_ c9 | with_reducible refine cc ?_ b7 | with_reducible refine cc ?_ bE)
theorem Uq (n : Int) (k : Nat) : ((n * 2 ^ k).natAbs : Int) = (n.natAbs : Int) * 2 ^ k := by
  rw [Int.natAbs_mul, Int.natAbs_pow, Int.natCast_mul];simp
theorem agi {n k : Int} {len : Nat} (h : qW n.natAbs len) (aJ : n ≠ 0) (ae : 0 ≤ k) (aB : 128 - (len : Int) < k) : fits (n * 2 ^ k.toNat) = false := by
  have h1 := abR h (by omega) (show 128 < k.toNat + len by omega);have h2 := Uq n k.toNat
  rw [show (n.natAbs : Int) * 2 ^ k.toNat = ((n.natAbs * 2 ^ k.toNat : Nat) : Int) by simp] at h2;unfold fits;rw [l0];omega
theorem agj {n k : Int} {len : Nat} (h : qW n.natAbs len) (aJ : n ≠ 0) (ae : 0 ≤ k) (aB : k ≤ 128 - (len : Int)) : k < 128 ∧ (n.natAbs : Int) * 2 ^ k.toNat < 340282366920938463463374607431768211456 := by
  have h1 := abS h (show k.toNat + len ≤ 128 by omega);rw [show (n.natAbs : Int) * 2 ^ k.toNat = ((n.natAbs * 2 ^ k.toNat : Nat) : Int) by simp];refine ⟨?_, by omega⟩;rcases h with h | h <;> omega
theorem agn {h1 l1 n : Int} (k : Nat) (H1 : bz h1 l1 n) : (if decide (h1 < 0) = true then -((n.natAbs : Int) * 2 ^ k) else (n.natAbs : Int) * 2 ^ k) = n * 2 ^ k := by
  have bC := H1.neg;rcases qD n 0 with a | a
  · obtain ⟨x, rfl⟩ : ∃ x : Nat, n = -(x : Int) := ⟨n.natAbs, by omega⟩
    rw [if_pos (bF (bC.2 a)), Int.natAbs_neg, Int.natAbs_natCast, Int.neg_mul]
  · obtain ⟨x, rfl⟩ : ∃ x : Nat, n = (x : Int) := ⟨n.natAbs, by omega⟩
    rw [if_neg (by simp; omega), Int.natAbs_natCast]
theorem agp {h1 l1 n ph pl P : Int} {k : Nat} (w : World) (H1 : bz h1 l1 n) (e : Hid (P = (n.natAbs : Int) * 2 ^ k)) (hp : cP ph pl P) :
    Calls aj 280 #[.agg #[.int .u64 ph, .int .u64 pl], .bool (decide (h1 < 0))] w (mJ (n * 2 ^ k) w) := by
  rw [← agn k H1, ← e.out];exact Sa ph pl P _ w hp
theorem T3 (k : Int) (w : World) (ae : 0 ≤ k) :
    Calls aj 271 #[.agg #[.int .i64 0, .int .u64 0], .int .i64 k] w (hD (.tuple #[.agg #[.int .i64 0, .int .u64 0], .bool true]) w) := by
  have he : gh 0 0 0 0 = true := rfl
  go_enter Tryz.func271, Tryz.ntmps271
  go_wp2
  refine bodyPost_ret (v := .tuple #[.agg #[.int .i64 0, .int .u64 0], .bool true]) (by simp only [results, Tryz.results271]; go_simp) rfl ⟨rfl, ?_⟩;(repeat first | with_reducible exact Below.refl _ _ | with_reducible refine c7 ?_ _)
theorem T2 (h1 l1 n k : Int) (w : World) (H1 : bz h1 l1 n) (aD : n ≠ 0) (ae : 0 ≤ k) (x1 : k < 9223372036854775808) :
    Calls aj 271 #[.agg #[.int .i64 h1, .int .u64 l1], .int .i64 k] w (mJ (n * 2 ^ k.toNat) w) := by
  have he : gh h1 l1 0 0 = false := by rw [H1.gh pb]; exact b5 aD
  go_enter Tryz.func271, Tryz.ntmps271
  go_wp2_with (go_at_call 279; refine (BC h1 l1 n _ H1).mono ?_; rintro e aT ⟨sh, sl, rfl, hs, bE⟩; have gI : ah aT (w.heap.size) (.int .i64 h1) (.int .u64 l1) := (by (repeat first | focus ((with_reducible refine ah.new ?_); simp; done) | with_reducible refine ah.alloc ?_ _ | with_reducible refine ah.call ?_ bE)); obtain ⟨⟨mi, mj⟩, mm, mn⟩ := id gI; have jV : ah aT (w.heap.size + 1) (.int .i64 0) (.int .u64 0) := (by (repeat first | focus ((with_reducible refine ah.new ?_); simp; done) | with_reducible refine ah.call ?_ bE)); obtain ⟨⟨pX, p6⟩, qc, qe⟩ := id jV; have mY := Below.size bE; (try simp at mY); have uP : ¬ aT.heap.size = w.heap.size := (by omega); have wD : ¬ aT.heap.size = w.heap.size + 1 := (by omega); have ub : ¬ w.heap.size = aT.heap.size := (by omega); have vL : ¬ w.heap.size + 1 = aT.heap.size := (by omega); have uL : w.heap.size < aT.heap.size := (by omega); have wz : w.heap.size + 1 < aT.heap.size := (by omega))
  refine (abO _ _ _ _ hs).mono ?_;rintro e w2 ⟨len, rfl, ap, b7⟩;have jy : ah w2 (w.heap.size) (.int .i64 h1) (.int .u64 l1) := (by (repeat first | with_reducible assumption | with_reducible refine ah.alloc ?_ _ | with_reducible refine ah.call ?_ b7)); obtain ⟨⟨pY, p7⟩, qd, qf⟩ := id jy; have ma : ah w2 (w.heap.size + 1) (.int .i64 0) (.int .u64 0) := (by (repeat first | with_reducible assumption | with_reducible refine ah.alloc ?_ _ | with_reducible refine ah.call ?_ b7)); obtain ⟨⟨tQ, tY⟩, ue, uj⟩ := id ma; have mb : ah w2 (aT.heap.size) (.int .u64 sh) (.int .u64 sl) := (by (repeat first | focus ((with_reducible refine ah.new ?_); simp; done) | with_reducible refine ah.call ?_ b7)); obtain ⟨⟨tR, tZ⟩, uf, uk⟩ := id mb; have oq := Below.size b7; (try simp at oq); have yl : ¬ w2.heap.size = w.heap.size := (by omega); have A4 : ¬ w2.heap.size = w.heap.size + 1 := (by omega); have xF : ¬ w.heap.size = w2.heap.size := (by omega); have zC : ¬ w.heap.size + 1 = w2.heap.size := (by omega); have yg : w.heap.size < w2.heap.size := (by omega); have AW : w.heap.size + 1 < w2.heap.size := (by omega);rw [k6] at ap;have mT := abQ ap
  by_cases aB : 128 - (len : Int) < k
  · have mH := Lib.hid (agi ap aD ae aB)
    go_wp2
    refine bodyPost_ret (v := .tuple #[.agg #[.int .i64 0, .int .u64 0], .bool false]) (by simp only [results, Tryz.results271]; go_simp) rfl (wQ mH.out ?_);(repeat first | with_reducible exact Below.refl _ _ | with_reducible refine c7 ?_ _ | focus ((with_reducible refine eV ?_ _ _ _ ?_); rotate_left; omega) | with_reducible refine cc ?_ b7 | with_reducible refine cc ?_ bE)
  · obtain ⟨Zx, hu⟩ := agj ap aD ae (by omega)
    have hn : k ≤ 128 - (len : Int) := by omega
    have Cf := Lib.hid hu;clear hu aB aD;have Z9 : Hid (∀ w, Calls aj 292 #[.agg #[.int .u64 sh, .int .u64 sl], .int .u64 k] w (aN ((n.natAbs : Int) * 2 ^ k.toNat) w)) := fun w => R6 _ _ _ _ w hs ae Zx Cf.out;generalize kS : n * 2 ^ k.toNat = N at *;have nU := Lib.hid kS;generalize fp : (n.natAbs : Int) * 2 ^ k.toNat = P at *;have r8 := Lib.hid fp.symm;clear kS fp
    have Z8 : Hid (∀ (ph pl : Int) w, cP ph pl P → Calls aj 280 #[.agg #[.int .u64 ph, .int .u64 pl], .bool (decide (h1 < 0))] w (mJ N w)) := fun ph pl w hp => by
      rw [← nU.out];exact agp w H1 r8 hp
    have ajQ : aT.heap.size < w2.heap.size := by omega
    have Ee : IntKind.u64.wrap k = k := by rw [IntKind.wrap_u64]; omega
    go_wp2_with fail
    go_region_held3 (fun w' => (w'.cell? ⟨w.heap.size, 0, none⟩ = some (.int .i64 h1) ∧ w'.cell? ⟨w.heap.size, 1, none⟩ = some (.int .u64 l1)) ∧ (w'.cell? ⟨aT.heap.size, 0, none⟩ = some (.int .u64 sh) ∧ w'.cell? ⟨aT.heap.size, 1, none⟩ = some (.int .u64 sl))) (go_keep)
      (first
        | (go_at_call 292; ((with_reducible refine (Z9.out _).mono ?_); rintro e w3 ⟨Kt, Ku, rfl, aF, c9⟩; have mc : ah w3 (w.heap.size) (.int .i64 h1) (.int .u64 l1) := (by (repeat first | with_reducible assumption | with_reducible refine ah.drew ?_ | with_reducible refine ah.call ?_ c9)); obtain ⟨⟨xw, xD⟩, xI, xN⟩ := id mc; have r3 : ah w3 (w.heap.size + 1) (.int .i64 0) (.int .u64 0) := (by (repeat first | with_reducible assumption | with_reducible refine ah.drew ?_ | with_reducible refine ah.call ?_ c9)); obtain ⟨⟨CW, C8⟩, Dp, Dz⟩ := id r3; have w8 : ah w3 (aT.heap.size) (.int .u64 sh) (.int .u64 sl) := (by (repeat first | with_reducible assumption | with_reducible refine ah.drew ?_ | with_reducible refine ah.call ?_ c9)); obtain ⟨⟨GS, G3⟩, Hj, Hu⟩ := id w8; have sU := Below.size c9; (try simp at sU); have A5 : ¬ w3.heap.size = w.heap.size := (by omega); have EQ : ¬ w3.heap.size = w.heap.size + 1 := (by omega); have zD : ¬ w.heap.size = w3.heap.size := (by omega); have Dd : ¬ w.heap.size + 1 = w3.heap.size := (by omega); have AX : w.heap.size < w3.heap.size := (by omega); have EE : w.heap.size + 1 < w3.heap.size := (by omega)))
        | (go_at_call 280; ((with_reducible refine (Z8.out _ _ _ aF).mono ?_); rintro e fD ⟨jO, jP, rfl, al, fa⟩; have B0 : ah fD (w.heap.size) (.int .i64 h1) (.int .u64 l1) := (by (repeat first | with_reducible assumption | with_reducible refine ah.call ?_ fa)); obtain ⟨⟨L6, Mx⟩, M4, Nj⟩ := id B0; have B1 : ah fD (w.heap.size + 1) (.int .i64 0) (.int .u64 0) := (by (repeat first | with_reducible assumption | with_reducible refine ah.call ?_ fa)); obtain ⟨⟨L7, My⟩, M5, Nk⟩ := id B1; have B2 : ah fD (aT.heap.size) (.int .u64 sh) (.int .u64 sl) := (by (repeat first | with_reducible assumption | with_reducible refine ah.call ?_ fa)); obtain ⟨⟨L8, Mz⟩, M6, Nl⟩ := id B2; have IP := Below.size fa; (try simp at IP); have P6 : ¬ fD.heap.size = w.heap.size := (by omega); have P7 : ¬ fD.heap.size = w.heap.size + 1 := (by omega); have MU : ¬ w.heap.size = fD.heap.size := (by omega); have MV : ¬ w.heap.size + 1 = fD.heap.size := (by omega); have Pv : w.heap.size < fD.heap.size := (by omega); have Pw : w.heap.size + 1 < fD.heap.size := (by omega))))
    all_goals
      go_wp2
      refine bodyPost_ret (v := .tuple #[.agg #[.int .i64 jO, .int .u64 jP], .bool (fits N)]) (by simp only [results, Tryz.results271]; go_simp) rfl ⟨jO, jP, rfl, al, ?_⟩;(repeat first | with_reducible exact Below.refl _ _ | with_reducible refine c7 ?_ _ | focus ((with_reducible refine eV ?_ _ _ _ ?_); rotate_left; omega) | with_reducible refine Below.drew ?_ | with_reducible refine cc ?_ fa | with_reducible refine cc ?_ c9 | with_reducible refine cc ?_ b7 | with_reducible refine cc ?_ bE)
end Go.Proofs.YtpochbhajmbfdaaGreat
namespace Go.Proofs.YtpochbhajmbfdaaGreat
open Go.RowKit
theorem T1 (h1 l1 n k : Int) (w : World) (H1 : bz h1 l1 n) (ae : 0 ≤ k) (x1 : k < 9223372036854775808) :
    Calls aj 271 #[.agg #[.int .i64 h1, .int .u64 l1], .int .i64 k] w (mJ (n * 2 ^ k.toNat) w) := by
  by_cases e : n = 0
  · subst e
    obtain ⟨rfl, rfl⟩ := H1.inj pb;rw [Int.zero_mul];exact (T3 k w ae).mono fun e w' ⟨he, ab⟩ => ⟨0, 0, he, by show bz 0 0 0; exact pb, ab⟩
  · exact T2 h1 l1 n k w H1 e ae x1
end Go.Proofs.YtpochbhajmbfdaaGreat
