/-
  My own texts, without what this claim does not need. My own text.
-/
import Derived.Deep.RegionHeld3
import Derived.StillTail
import Derived.Deep.QuietTactic
import Derived.OwnWalk
import Derived.Laws.OwnMore
import Derived.Maps.AppendAt
import Derived.IntWalk
import Derived.Shelf.Small.Bits
import Derived.Shelf.Strconv.Itoa0
import Derived.Shelf.Bits.Mul64
import Derived.Test.YtpochbhajmbfdaaGreatProg
import Derived.WalkKit
import Derived.Lib.ItoaNum
import Derived.Deep.DeepCutAuto
import Derived.Test.YtpochbhajmbfdaaGreatSLastK5
set_option maxRecDepth 100000
set_option maxHeartbeats 64000000
set_option linter.unusedVariables false
set_option linter.unusedSimpArgs false
set_option linter.unusedSectionVars false
open Go.Proofs.Tryz renaming prog → aj
namespace Go.Proofs.YtpochbhajmbfdaaGreat
open Go.RowKit
def cM (k : Nat) (cs : List AC) : Mem := bM ca k cs
theorem hb {k j : Nat} {cs ds : List AC} (h : cM k cs j = some ds) : j = k ∧ ds = cs := by
 unfold cM at h
 by_cases e : j = k
 ·subst e; rw [cr] at h; exact ⟨rfl, (mo h).symm⟩
 ·rw [cj _ _ e] at h; cases h
theorem fG {k j : Nat} {r q : bL} (h : bI k r j = some q) : j = k ∧ q = r := by
 unfold bI at h
 by_cases e : j = k
 ·subst e; rw [cr] at h; exact ⟨rfl, (mo h).symm⟩
 ·rw [cj _ _ e] at h; cases h
theorem vl {α : Type} (f : Nat → Option α) (k : Nat) (x : α) : bZ (bM (fun _ => none) k x) f = bM f k x := by
 funext j
 by_cases e : j = k
 ·subst e; rw [cr]; exact hf (cr _ _ _)
 ·rw [cj _ _ e]; exact hg (cj _ _ e)
theorem O3 {α : Type} (f : Nat → Option α) : bZ (fun _ => none) f = f := by funext j; exact hg rfl
def xB (n : Nat) (args : List ai) (m : Mem) : aD := ⟨n, fun t => args[t]?, m⟩
def tv (P : Program) (fn : Func) (m0 : Mem) (R0 : aJ) (Post : ai → Mem → aJ → Prop) (R : aJ) (s : aD) : Prop :=
 ∃ xs r aH az, fn.results.toList.map (ik P s) = xs.map some ∧ (packed xs).bo r ∧ Post r aH az ∧ (∀ k cs, aH k = some cs → s.mem k = some cs) ∧ bH az R ∧ (∀ j, r.owns j → ∃ cs, aH j = some cs) ∧ (∀ k cs x j, aH k = some cs → x ∈ cs → x.owns j → ∃ ar, aH j = some ar) ∧ (∀ k cs, m0 k = some cs → ∃ ar, aH k = some ar) ∧ ∀ i r, R0 i = some r → ∃ a8, az i = some a8
def ju (P : Program) (fn : Func) (m0 : Mem) (R0 : aJ) (Post : ai → Mem → aJ → Prop) : Exit → aJ → aD → Prop
 | .normal, R, s | .ret, R, s => tv P fn m0 R0 Post R s
 | _, _, _ => False
section
variable {P : Program}
theorem dk {f : FuncId} {fn : Func} {c : Code} {args : List ai} {m0 : Mem} {R0 : aJ} {Post : ai → Mem → aJ → Prop} (au : P.funcs[f]? = some fn) (ab : fn.body = some c) (aF : args.length ≤ fn.ntmps) (wL : ∀ k cs, m0 k = some cs → fn.ntmps ≤ k)
  (h : fp P c (ju P fn m0 R0 Post) R0 (xB fn.ntmps args m0)) : dn P f args m0 R0 Post := by
 refine ⟨fun U ad W vs cK ee dH => ?_⟩;have an := dH.1;refine calls_of_wp au ab ?_;have ok : (xB fn.ntmps args m0).cN := ⟨fun t av j aE ae => ee av (dF aE) j ae, fun k cs x j af aa ae => cK.fE k cs x j af aa ae⟩
 let br : eS := ⟨W, fun b => b < W.heap.size ∧ ¬ ec ad m0 R0 b, fun _ h => h.1, fun k => match m0 k with | some _ => some (ad k) | none => none, []⟩
 have bi : ∀ b, ec ad m0 R0 b → b < W.heap.size := by
  rintro b (⟨k, cs, af, rfl⟩ | ⟨i, r, hi, aw⟩)
  ·obtain ⟨vs, ty, h1, _⟩ := cK.du k cs af;exact (ku.1 h1).1
  ·exact (cK.rows i r hi).1.lt aw
 have W0 : ∀ b, U b → ¬ ec ad m0 R0 b := by
  rintro b hu (⟨k, cs, af, rfl⟩ | ⟨i, r, hi, aw⟩)
  ·obtain ⟨_, _, _, _, h⟩ := cK.du k cs af; exact h hu
  ·exact ((cK.rows i r hi).2.2 b aw).1 hu
 have Gy : ud br (xB fn.ntmps args m0) ad := fun k b af => by
  cases hm : m0 k with
  | none => simp only [br, hm] at af; cases af
  | some cs => simp only [br, hm, hR] at af; exact ⟨wL k cs hm, af⟩
 have jr : ∀ b, U b → b < W.heap.size → (xB fn.ntmps args m0).free (fun b => U b ∨ W.heap.size ≤ b) ad b ∧ W.heap[b]? = W.heap[b]? := fun b hu _ => ⟨⟨.inl hu, fun k cs af e => W0 b hu (.inl ⟨k, cs, af, e⟩)⟩, rfl⟩
 have ay : ep br (fun b => U b ∨ W.heap.size ≤ b ∨ ec ad m0 R0 b) R0 (xB fn.ntmps args m0) { tmps := vs.toArray ++ Array.replicate (fn.ntmps - vs.toArray.size) undef, defers := [] } W (fun b => U b ∨ W.heap.size ≤ b) ad := by
  refine ⟨fun b ab => .inr (.inl ab), fun b ab => ab.elim .inl fun h => .inr (.inl h), ?_, fun k cs af au => au.2 (.inl ⟨k, cs, af, rfl⟩), ⟨rfl, rfl, rfl, dL _, fun _ _ => rfl⟩, fun i r hi => ?_, cK.apart, fun i r g hi aw => ⟨fun au => au.2 (.inr ⟨i, r, hi, aw⟩), .inr (.inr (.inr ⟨i, r, hi, aw⟩))⟩, Gy⟩
  ·refine ⟨rfl, by simp [xB]; omega, fun t av aE => ?_, fun k cs af => ?_, cK.inj, jK.refl _, fun b ab => .inr ab, wJ _ _ _⟩
   ·have CI : t < vs.length := by rw [← an]; exact (bS.1 aE).1
    refine ⟨vs[t], by simp [Array.getElem?_append, CI], ?_⟩;exact (dH.2 t av _ aE (cm CI)).map jr fun _ _ => rfl
   ·obtain ⟨us, ty, h1, h2, ap⟩ := cK.du k cs af;exact ⟨us, ty, h1, h2.map jr fun _ _ _ _ => rfl, fun au => au.2 k cs af rfl⟩
  ·obtain ⟨lg, ak, aw⟩ := cK.rows i r hi;refine ⟨lg.kept ak (fun _ _ => rfl) (dL _) jr, ak, fun g q => ⟨?_, fun k cs af => (aw g q).2 k cs af⟩⟩;rintro (hu | hu)
   ·exact (aw g q).1 hu
   ·have := bi g (.inr ⟨i, r, hi, q⟩); omega
 refine wp_mono (h ok br _ _ W ⟨_, ad, ay⟩).top ?_;rintro e a' w' ⟨eY, s', dB, ⟨ei, bg, cw⟩, al⟩
 have fin : tv P fn m0 R0 Post eY s' → a'.defers = [] ∧ ∃ v, (results fn a'.tmps).run P w' = .ok v w' ∧ ∃ aZ r aH az bg cA, Ending.returned v = .returned aZ ∧ Post r aH az ∧ eW cA bg w' aH az ∧ dc cA bg w' r aZ ∧ (∀ j, r.owns j → ∃ cs, aH j = some cs) ∧
   (∀ k cs, m0 k = some cs → bg k = ad k ∧ ∃ ar, aH k = some ar) ∧ (∀ i r, R0 i = some r → ∃ a8, az i = some a8) ∧
   (∀ b, cA b → U b ∨ W.heap.size ≤ b ∨ ec ad m0 R0 b) ∧ (∀ b, ec bg aH az b → ec ad m0 R0 b ∨ W.heap.size ≤ b) ∧ jK (G4 ad W m0 R0) w' := by
  rintro ⟨xs, r, aH, az, h1, h2, ap, aL, dx, gd, mC, pk, iA⟩;obtain ⟨v, q1, q2⟩ := PY cw.rel h1;refine ⟨cw.rel.pD, v, q1, v, r, aH, az, bg, s'.free ei bg, rfl, ap, cw.part aL dx mC, h2 _ _ _ _ q2, gd, fun k cs af => ⟨(cw.jQ k (ad k) (by simp [br, af])).2, pk k cs af⟩, iA, fun b ab => cw.sub b ab.1, ?_, ⟨cw.below.os, cw.below.tape, cw.below.output, cw.below.size, fun b ab => cw.below.block b ab⟩⟩;rintro b (⟨k, cs, af, rfl⟩ | ⟨i, q, hi, aw⟩)
  ·have G2 := cw.ov k cs (aL k cs af);rcases iL (bg k) W.heap.size with mE | mE
   ·exact .inl (Classical.byContradiction fun aF => G2 ⟨mE, aF⟩)
   ·exact .inr mE
  ·have G2 := (cw.hot i q b (dx i q hi) aw).1;rcases iL b W.heap.size with mE | mE
   ·exact .inl (Classical.byContradiction fun aF => G2 ⟨mE, aF⟩)
   ·exact .inr mE
 cases e with
 | normal => exact fin al
 | ret => exact fin al
 | _ => exact al.elim
end
def AC.bd (bJ : Nat → Nat) : AC → AC
 | .own k o => .own (bJ k) o
 | .c v => .c v
 | .p R => .p R
def bG.bd (bJ : Nat → Nat) : bG → bG
 | .one x => .one (x.bd bJ)
 | .agg xs => .agg (xs.map (AC.bd bJ))
def ai.bd (bJ : Nat → Nat) : ai → ai
 | .w x => .w (x.bd bJ)
 | .cZ xs => .cZ (xs.map (bG.bd bJ))
def Mem.bd (bJ : Nat → Nat) (m : Mem) : Mem := fun j => (m (bJ j)).map fun cs => cs.map (AC.bd bJ)
def aJ.bd (cq : Nat → Nat) (R : aJ) : aJ := fun j => R (cq j)
section
variable {P : Program} {U : Nat → Prop} {ad : Nat → Nat} {W : World} {bJ cq ir : Nat → Nat}
theorem gm.bd {x : AC} {v : Value} : gm U ad W (x.bd bJ) v ↔ gm U (fun k => ad (bJ k)) W x v := by cases x <;> exact Iff.rfl
theorem bP.bd {xs : List AC} {vs : List Value} : bP U ad W (xs.map (AC.bd bJ)) vs ↔ bP U (fun k => ad (bJ k)) W xs vs := by
 constructor
 ·rintro ⟨h1, h2⟩;refine ⟨by simpa using h1, fun i x v aa hv => gm.bd.1 (h2 i (x.bd bJ) v (by rw [eD, aa]; rfl) hv)⟩
 ·rintro ⟨h1, h2⟩;refine ⟨by simpa using h1, fun i x v aa hv => ?_⟩;rw [eD] at aa;cases ag : xs[i]? with
  | none => rw [ag] at aa; cases aa
  | some y => rw [ag] at aa; cases aa; exact gm.bd.2 (h2 i y v ag hv)
theorem gx.bd {x : bG} {v : Value} : gx U ad W (x.bd bJ) v ↔ gx U (fun k => ad (bJ k)) W x v := by
 cases x with
 | one x => exact gm.bd
 | agg xs =>
  constructor
  ·rintro ⟨vs, e, h⟩; exact ⟨vs, e, bP.bd.1 h⟩
  ·rintro ⟨vs, e, h⟩; exact ⟨vs, e, bP.bd.2 h⟩
theorem dc.bd {x : ai} {v : Value} : dc U ad W (x.bd bJ) v ↔ dc U (fun k => ad (bJ k)) W x v := by
 cases x with
 | w x => exact gx.bd
 | cZ xs =>
  constructor
  ·rintro ⟨vs, e, an, h⟩;exact ⟨vs, e, by simpa using an, fun i x v aa hv => gx.bd.1 (h i (x.bd bJ) v (by rw [eD, aa]; rfl) hv)⟩
  ·rintro ⟨vs, e, an, h⟩;refine ⟨vs, e, by simpa using an, fun i x v aa hv => ?_⟩;rw [eD] at aa;cases ag : xs[i]? with
   | none => rw [ag] at aa; cases aa
   | some y => rw [ag] at aa; cases aa; exact gx.bd.2 (h i y v ag hv)
theorem AC.D1 {x : AC} {j : Nat} (h : (x.bd bJ).owns j) : ∃ i, x.owns i ∧ j = bJ i := by
 cases x with
 | own k o => exact ⟨k, rfl, h⟩
 | c v => cases h
 | p R => cases h
theorem AC.DH {x : AC} {j : Nat} (h : x.owns j) : (x.bd bJ).owns (bJ j) := by
 cases x with
 | own k o => cases h; rfl
 | c v => cases h
 | p R => cases h
theorem bG.KF (x : bG) : (x.bd bJ).cells = x.cells.map (AC.bd bJ) := by cases x <;> rfl
theorem ai.D1 {x : ai} {j : Nat} (h : (x.bd bJ).owns j) : ∃ i, x.owns i ∧ j = bJ i := by
 have key : ∀ y : bG, (y.bd bJ).owns j → ∃ i, y.owns i ∧ j = bJ i := by
  rintro y ⟨z, a6, ae⟩;rw [bG.KF] at a6;obtain ⟨u, hu, rfl⟩ := hU.1 a6;obtain ⟨i, h1, h2⟩ := AC.D1 ae;exact ⟨i, ⟨u, hu, h1⟩, h2⟩
 cases x with
 | w x => exact key x h
 | cZ xs =>
  obtain ⟨y, ag, ae⟩ := h;obtain ⟨u, hu, rfl⟩ := hU.1 ag;obtain ⟨i, h1, h2⟩ := key u ae;exact ⟨i, ⟨u, hu, h1⟩, h2⟩
theorem ai.DH {x : ai} {j : Nat} (h : x.owns j) : (x.bd bJ).owns (bJ j) := by
 have key : ∀ y : bG, y.owns j → (y.bd bJ).owns (bJ j) := by
  rintro y ⟨z, a6, ae⟩;exact ⟨z.bd bJ, by rw [bG.KF]; exact hU.2 ⟨z, a6, rfl⟩, AC.DH ae⟩
 cases x with
 | w x => exact key x h
 | cZ xs =>
  obtain ⟨y, ag, ae⟩ := h;exact ⟨y.bd bJ, hU.2 ⟨y, ag, rfl⟩, key y ae⟩
theorem Mem.qS {m : Mem} {j : Nat} {cs : List AC} (h : Mem.bd bJ m j = some cs) : ∃ ds, m (bJ j) = some ds ∧ cs = ds.map (AC.bd bJ) := by
 unfold Mem.bd at h;cases hm : m (bJ j) with
 | none => rw [hm] at h; cases h
 | some ds => rw [hm] at h; exact ⟨ds, rfl, (mo h).symm⟩
theorem Mem.qR (fs : ∀ j, bJ (bJ j) = j) {m : Mem} {k : Nat} {cs : List AC} (h : m k = some cs) : Mem.bd bJ m (bJ k) = some (cs.map (AC.bd bJ)) := by
 unfold Mem.bd; rw [fs, h]; rfl
theorem ec.bd (fs : ∀ j, bJ (bJ j) = j) (gq : ∀ j, cq (ir j) = j) {m : Mem} {R : aJ} {b : Nat} : ec ad (m.bd bJ) (R.bd cq) b ↔ ec (fun k => ad (bJ k)) m R b := by
 constructor
 ·rintro (⟨k, cs, af, e⟩ | ⟨i, r, hi, aw⟩)
  ·obtain ⟨ds, h1, _⟩ := Mem.qS af;exact .inl ⟨bJ k, ds, h1, by simp only [fs]; exact e⟩
  ·exact .inr ⟨cq i, r, hi, aw⟩
 ·rintro (⟨k, cs, af, e⟩ | ⟨i, r, hi, aw⟩)
  ·exact .inl ⟨bJ k, _, Mem.qR fs af, e⟩
  ·exact .inr ⟨ir i, r, by unfold aJ.bd; rw [gq]; exact hi, aw⟩
theorem eW.bd (fs : ∀ j, bJ (bJ j) = j) (gq : ∀ j, cq (ir j) = j) (u3 : ∀ j, ir (cq j) = j) {m : Mem} {R : aJ} : eW U ad W (m.bd bJ) (R.bd cq) ↔ eW U (fun k => ad (bJ k)) W m R := by
 have M8 : ∀ {a b : Nat}, bJ a = bJ b → a = b := fun {a b} h => by rw [← fs a, h, fs]
 have YY : ∀ {a b : Nat}, cq a = cq b → a = b := fun {a b} h => by rw [← u3 a, h, u3]
 have YZ : ∀ {a b : Nat}, ir a = ir b → a = b := fun {a b} h => by rw [← gq a, h, gq]
 constructor
 ·intro h;refine ⟨fun k cs af => ?_, fun k cs x j af aa ae => ?_, fun k k' cs ar af eJ e => ?_, fun i r hi => ?_, fun i j r q hi ae gg g aw => h.apart (ir i) (ir j) r q (by unfold aJ.bd; rw [gq]; exact hi) (by unfold aJ.bd; rw [gq]; exact ae) (fun e => gg (YZ e)) g aw⟩
  ·obtain ⟨vs, ty, h1, h2, ap⟩ := h.du (bJ k) _ (Mem.qR fs af);exact ⟨vs, ty, h1, bP.bd.1 h2, ap⟩
  ·obtain ⟨ar, h1⟩ := h.fE (bJ k) _ (x.bd bJ) (bJ j) (Mem.qR fs af) (hU.2 ⟨x, aa, rfl⟩) (AC.DH ae);obtain ⟨ds, h2, _⟩ := Mem.qS h1;rw [fs] at h2;exact ⟨ds, h2⟩
  ·exact M8 (h.inj (bJ k) (bJ k') _ _ (Mem.qR fs af) (Mem.qR fs eJ) e)
  ·obtain ⟨h1, ap, aL⟩ := h.rows (ir i) r (by unfold aJ.bd; rw [gq]; exact hi);exact ⟨h1.kept ap (fun _ _ => rfl) (dL _) (fun b ab _ => ⟨ab, rfl⟩), ap, fun g aw => ⟨(aL g aw).1, fun k cs af => (aL g aw).2 (bJ k) _ (Mem.qR fs af)⟩⟩
 ·intro h;refine ⟨fun k cs af => ?_, fun k cs x j af aa ae => ?_, fun k k' cs ar af eJ e => ?_, fun i r hi => ?_, fun i j r q hi ae gg g aw => h.apart (cq i) (cq j) r q hi ae (fun e => gg (YY e)) g aw⟩
  ·obtain ⟨ds, aG, rfl⟩ := Mem.qS af;obtain ⟨vs, ty, h1, h2, ap⟩ := h.du (bJ k) ds aG;simp only [fs] at h1 ap;exact ⟨vs, ty, h1, bP.bd.2 h2, ap⟩
  ·obtain ⟨ds, aG, rfl⟩ := Mem.qS af;obtain ⟨y, ag, rfl⟩ := hU.1 aa;obtain ⟨i, h1, rfl⟩ := AC.D1 ae;obtain ⟨ar, h2⟩ := h.fE (bJ k) ds y i aG ag h1;exact ⟨_, Mem.qR fs h2⟩
  ·obtain ⟨ds, aG, _⟩ := Mem.qS af;obtain ⟨Vc, yF, _⟩ := Mem.qS eJ;exact M8 (h.inj (bJ k) (bJ k') _ _ aG yF (by simp only [fs]; exact e))
  ·obtain ⟨h1, ap, aL⟩ := h.rows (cq i) r hi;refine ⟨h1.kept ap (fun _ _ => rfl) (dL _) (fun b ab _ => ⟨ab, rfl⟩), ap, fun g aw => ⟨(aL g aw).1, fun k cs af => ?_⟩⟩;obtain ⟨ds, aG, _⟩ := Mem.qS af;have := (aL g aw).2 (bJ k) ds aG;simpa only [fs] using this
theorem dn.bd (fs : ∀ j, bJ (bJ j) = j) (gq : ∀ j, cq (ir j) = j) (u3 : ∀ j, ir (cq j) = j) {f : FuncId} {args : List ai} {m0 : Mem} {R0 : aJ} {Post : ai → Mem → aJ → Prop} (h : dn P f args m0 R0 Post) :
  dn P f (args.map (ai.bd bJ)) (m0.bd bJ) (R0.bd cq) fun r aH az => ∃ cP m1 bn, Post cP m1 bn ∧ r = cP.bd bJ ∧ aH = Mem.bd bJ m1 ∧ az = aJ.bd cq bn := by
 refine ⟨fun U ad W vs cK ee dH => ?_⟩;have YC : jO U (fun k => ad (bJ k)) W args vs := ⟨by simpa using dH.1, fun i x v aa hv => dc.bd.1 (dH.2 i (x.bd bJ) v (by rw [eD, aa]; rfl) hv)⟩;refine (h.call U (fun k => ad (bJ k)) W vs ((eW.bd fs gq u3).1 cK) (fun x aa j ae => ?_) YC).mono ?_
 ·obtain ⟨cs, h1⟩ := ee (x.bd bJ) (hU.2 ⟨x, aa, rfl⟩) (bJ j) (ai.DH ae);obtain ⟨ds, h2, _⟩ := Mem.qS h1;rw [fs] at h2;exact ⟨ds, h2⟩
 ·rintro e W' ⟨v, r, aH, az, bg, cA, rfl, h1, h2, ap, aL, dx, gd, mC, pk, iA⟩;have aI : (fun k => (fun k => bg (bJ k)) (bJ k)) = bg := by funext k; simp only [fs]
  refine ⟨v, r.bd bJ, aH.bd bJ, az.bd cq, fun k => bg (bJ k), cA, rfl, ⟨r, aH, az, h1, rfl, rfl, rfl⟩, (eW.bd fs gq u3).2 (by rw [aI]; exact h2), dc.bd.2 (by rw [aI]; exact ap), fun j ae => ?_, fun k cs af => ?_, fun i q hi => ?_, fun b ab => ?_, fun b ab => ?_, ⟨iA.os, iA.tape, iA.output, iA.size, fun b ab => iA.block b ⟨ab.1, fun aY => ab.2 ((ec.bd fs gq).2 aY)⟩⟩⟩
  ·obtain ⟨i, q1, rfl⟩ := ai.D1 ae;obtain ⟨cs, q2⟩ := aL i q1;exact ⟨_, Mem.qR fs q2⟩
  ·obtain ⟨ds, cY, _⟩ := Mem.qS af;obtain ⟨q1, ar, q2⟩ := dx (bJ k) ds cY;refine ⟨by show bg (bJ k) = ad k; rw [q1, fs], ?_⟩;have := Mem.qR fs q2;rw [fs] at this;exact ⟨_, this⟩
  ·exact gd (cq i) q hi
  ·rcases mC b ab with q | q | q
   ·exact .inl q
   ·exact .inr (.inl q)
   ·exact .inr (.inr ((ec.bd fs gq).2 q))
  ·have : ec (fun k => (fun k => bg (bJ k)) (bJ k)) aH az b := (ec.bd fs gq).1 ab;rw [aI] at this;rcases pk b this with q | q
   ·exact .inl ((ec.bd fs gq).2 q)
   ·exact .inr q
end
def swp (a b j : Nat) : Nat := if j = a then b else if j = b then a else j
theorem mQ (a b j : Nat) : swp a b (swp a b j) = j := by
 unfold swp
 by_cases h1 : j = a
 ·subst h1
  by_cases h2 : b = j
  ·simp [h2]
  ·simp [h2]
 ·by_cases h2 : j = b
  ·subst h2; simp [h1]
  ·simp [h1, h2]
theorem Er (a b : Nat) : swp a b a = b := by simp [swp]
theorem QA (a b : Nat) : swp a b b = a := by unfold swp; by_cases h : b = a <;> simp [h]
theorem PU {bJ : Nat → Nat} {x : AC} (h : x.bc = true) : x.bd bJ = x := by cases x <;> first | rfl | cases h
theorem PV {bJ : Nat → Nat} {xs : List AC} (h : xs.all AC.bc = true) : xs.map (AC.bd bJ) = xs := by
 rw [cu] at h
 conv => rhs; rw [← List.map_id xs]
 exact pG fun x aa => PU (h x aa)
theorem vr {bJ : Nat → Nat} {x : ai} (h : x.bc = true) : x.bd bJ = x := by
 have key : ∀ y : bG, y.bc = true → y.bd bJ = y := fun y ag => by
  cases y with
  | one x => show bG.one (x.bd bJ) = _; rw [PU ag]
  | agg xs => show bG.agg (xs.map _) = _; rw [PV ag]
 cases x with
 | w x => show ai.w (x.bd bJ) = _; rw [key x h]
 | cZ xs =>
  show ai.cZ (xs.map _) = _;congr 1;have aC : ∀ x ∈ xs, x.bc = true := cu.1 h
  conv => rhs; rw [← List.map_id xs]
  exact pG fun x aa => key x (aC x aa)
theorem xa {k j : Nat} {cs : List AC} (h : cs.all AC.bc = true) : Mem.bd (swp k j) (cM k cs) = cM j cs := by
 funext i;unfold Mem.bd cM
 by_cases e : i = j
 ·subst e; rw [QA, cr, cr, gH, PV h]
 ·rw [cj _ _ e, cj _ _ (fun aN => e (by rw [← mQ k j i, aN, Er]))]; rfl
theorem Ad {k j : Nat} {r : bL} : aJ.bd (swp k j) (bI k r) = bI j r := by
 funext i;unfold aJ.bd bI
 by_cases e : i = j
 ·subst e; rw [QA, cr, cr]
 ·rw [cj _ _ e, cj _ _ (fun aN => e (by rw [← mQ k j i, aN, Er]))]; rfl
def p8 (P : Program) (f : FuncId) (args : List ai) (cs : List AC) (r : bL) (post : ai → List AC → bL → Prop) : Prop :=
 ∀ k i, dn P f (.w (.one (.own k 0)) :: args) (cM k cs) (bI i r) fun v aH az => ∃ ar a8, aH = cM k ar ∧ az = bI i a8 ∧ post v ar a8
theorem tP {P : Program} {f : FuncId} {args : List ai} {cs : List AC} {r : bL} {post : ai → List AC → bL → Prop} (aK : args.all ai.bc = true) (ak : cs.all AC.bc = true) (hp : ∀ v ar a8, post v ar a8 → v.bc = true ∧ ar.all AC.bc = true)
  (h : dn P f (.w (.one (.own 1000 0)) :: args) (cM 1000 cs) (bI 0 r) fun v aH az => ∃ ar a8, aH = cM 1000 ar ∧ az = bI 0 a8 ∧ post v ar a8) : p8 P f args cs r post := by
 intro k i;have h1 := h.bd (bJ := swp 1000 k) (cq := swp 0 i) (ir := swp 0 i) (mQ _ _) (mQ _ _) (mQ _ _)
 have aI : (ai.w (.one (.own 1000 0)) :: args).map (ai.bd (swp 1000 k)) = .w (.one (.own k 0)) :: args := by
  have aN : args.map (ai.bd (swp 1000 k)) = args := by
   rw [cu] at aK
   conv => rhs; rw [← List.map_id args]
   exact pG fun x aa => vr (aK x aa)
  rw [kv, aN];show ai.w (.one (.own (swp 1000 k 1000) 0)) :: args = _;rw [Er]
 rw [aI, xa ak, Ad] at h1;refine ⟨fun U ad W vs cK ee dH => (h1.call U ad W vs cK ee dH).mono ?_⟩;rintro e W' ⟨v, cP, aH, az, bg, cA, cY, ⟨ea, m2, eY, ⟨ar, a8, rfl, rfl, al⟩, rfl, rfl, rfl⟩, q⟩;obtain ⟨c1, c2⟩ := hp _ _ _ al;rw [xa c2, Ad, vr c1] at q;exact ⟨v, ea, cM k ar, bI i a8, bg, cA, cY, ⟨ar, a8, rfl, rfl, al⟩, q⟩
section
variable {P : Program} {R : aJ} {s : aD} {ops : Array Oper} {dr : Option (List Nat)} {ty : Nat} {pos : String} {after : Array Edge} {guard : Option (Nat × Bool)} {K : aJ → aD → Prop} {rest : List Oper}
def kH (dst : Option Nat) (n : Nat) : Bool := match dst with
 | some d => Nat.blt d n
 | none => true
theorem K5 {dst : Option Nat} {n : Nat} (h : kH dst n = true) : ∀ d, dst = some d → d < n := fun d e => by subst e; simpa [kH, Nat.blt_eq] using h
theorem u0 {dst : Option Nat} {f : FuncId} {g : Operand} {aS : Array TypeId} {l : List Operand} {args : List ai} {m0 : Mem} {R0 : aJ} {Post : ai → Mem → aJ → Prop} [E : Enters P f] (hw : want ops ⟨dst, .call ⟨.value g, l.toArray, aS⟩, ty, pos, after, guard⟩ s = some true) (hm : dJ dr ⟨dst, .call ⟨.value g, l.toArray, aS⟩, ty, pos, after, guard⟩ = true)
  (aw : s.look g = some (aQ (.func (.func f) #[] #[]))) (aK : l.map s.look = args.map some) (hp : dn P f args m0 R0 Post) (ax : ∀ x ∈ args, ∀ j, x.owns j → ∃ cs, m0 j = some cs) (pv : ∀ k cs, m0 k = some cs → s.mem k = some cs ∧ (oP dr k = true ∨ ∀ r aH az, Post r aH az → aH k = some cs)) (aq : bH R0 R) (fE : ∀ k cs x j, m0 k = some cs → x ∈ cs → x.owns j → ∃ ar, m0 j = some ar) (hd : kH dst s.n = true)
  (h : ∀ r aH az, Post r aH az → (∀ k ar, aH k = some ar → (∃ cs, m0 k = some cs) ∨ (s.mem k = none ∧ k < s.n)) ∧ cL P ops dr K rest (bZ az R) ((s.over aH).put dst r)) : cL P ops dr K (⟨dst, .call ⟨.value g, l.toArray, aS⟩, ty, pos, after, guard⟩ :: rest) R s := by
 refine ⟨true, hw, K5 hd, .inr (.inr (.inr (.inr (.inl ⟨rfl, hm, f, args, m0, R0, Post, ⟨⟨_, g, rfl, rfl, .inl ⟨[], aw, ?_, rfl⟩⟩, E.h⟩, hp, ax, pv, aq, fE, fun r aH az h1 _ _ _ => h r aH az h1⟩))))⟩;simpa using aK
theorem ML (k i : Nat) {dst : Option Nat} {f : FuncId} {g : Operand} {aS : Array TypeId} {l : List Operand} {args : List ai} {cs : List AC} {r : bL} {post : ai → List AC → bL → Prop} [E : Enters P f] (hw : want ops ⟨dst, .call ⟨.value g, l.toArray, aS⟩, ty, pos, after, guard⟩ s = some true) (hm : dJ dr ⟨dst, .call ⟨.value g, l.toArray, aS⟩, ty, pos, after, guard⟩ = true)
  (aw : s.look g = some (aQ (.func (.func f) #[] #[]))) (aK : l.map s.look = (ai.w (.one (.own k 0)) :: args).map some) (hp : p8 P f args cs r post) (af : s.mem k = some cs) (gZ : oP dr k = true ∨ ∀ v ar a8, post v ar a8 → ar = cs) (hi : R i = some r) (ak : cs.all AC.bc = true) (ek : args.all ai.bc = true) (hd : kH dst s.n = true)
  (h : ∀ v ar a8, post v ar a8 → cL P ops dr K rest (bM R i a8) ((s.dV k ar).put dst v)) : cL P ops dr K (⟨dst, .call ⟨.value g, l.toArray, aS⟩, ty, pos, after, guard⟩ :: rest) R s := by
 refine u0 hw hm aw aK (hp k i) (fun x aa j ae => ?_) (fun k' ar aC => ?_) (fun ft a8 aC => ?_) (fun k' ar x j aC aa ae => ?_) hd ?_
 ·rcases gI.1 aa with rfl | aa
  ·obtain ⟨y, ag, ae⟩ := ae;simp [bG.cells] at ag;subst ag;cases ae;exact ⟨cs, by unfold cM; exact cr _ _ _⟩
  ·exact absurd ae (ai.dw (cu.1 ek x aa) j)
 ·obtain ⟨rfl, rfl⟩ := hb aC;refine ⟨af, gZ.imp id fun hu => ?_⟩;rintro v aH az ⟨ar, a8, rfl, rfl, al⟩;rw [hu v ar a8 al]; unfold cM; exact cr _ _ _
 ·obtain ⟨rfl, rfl⟩ := fG aC; exact hi
 ·obtain ⟨rfl, rfl⟩ := hb aC;exact absurd ae (AC.dw (cu.1 ak x aa) j)
 ·rintro v aH az ⟨ar, a8, rfl, rfl, al⟩;refine ⟨fun k' c aC => ?_, ?_⟩
  ·obtain ⟨rfl, rfl⟩ := hb aC;exact .inl ⟨cs, by unfold cM; exact cr _ _ _⟩
  ·have aI : bZ (bI i a8) R = bM R i a8 := vl R i a8
   have aN : s.over (cM k ar) = s.dV k ar := by
    show ({ s with mem := bZ (bM ca k ar) s.mem } : aD) = { s with mem := bM s.mem k ar };rw [show bZ (bM ca k ar) s.mem = bM s.mem k ar from vl s.mem k ar]
   rw [aI, aN];exact h v ar a8 al
theorem rX (k i : Nat) {dst : Option Nat} {f : FuncId} {g : Operand} {aS : Array TypeId} {l : List Operand} {args : List ai} {cs : List AC} {r : bL} {post : ai → List AC → bL → Prop} [E : Enters P f] (hw : want ops ⟨dst, .call ⟨.value g, l.toArray, aS⟩, ty, pos, after, guard⟩ s = some true) (hm : dJ dr ⟨dst, .call ⟨.value g, l.toArray, aS⟩, ty, pos, after, guard⟩ = true)
  (aw : s.look g = some (aQ (.func (.func f) #[] #[]))) (aK : l.map s.look = (ai.w (.one (.own k 0)) :: args).map some) (hp : p8 P f args cs r post) (af : s.mem k = some cs) (gZ : oP dr k = true) (hi : R i = some r) (ak : cs.all AC.bc = true) (ek : args.all ai.bc = true) (hd : kH dst s.n = true)
  (h : ∀ v ar a8, post v ar a8 → cL P ops dr K rest (bM R i a8) ((s.dV k ar).put dst v)) : cL P ops dr K (⟨dst, .call ⟨.value g, l.toArray, aS⟩, ty, pos, after, guard⟩ :: rest) R s :=
 ML k i hw hm aw aK hp af (.inl gZ) hi ak ek hd h
theorem Hc (k i : Nat) {dst : Option Nat} {f : FuncId} {g : Operand} {aS : Array TypeId} {l : List Operand} {args : List ai} {cs : List AC} {r : bL} {post : ai → List AC → bL → Prop} [E : Enters P f] (hw : want ops ⟨dst, .call ⟨.value g, l.toArray, aS⟩, ty, pos, after, guard⟩ s = some true) (hm : dJ dr ⟨dst, .call ⟨.value g, l.toArray, aS⟩, ty, pos, after, guard⟩ = true)
  (aw : s.look g = some (aQ (.func (.func f) #[] #[]))) (aK : l.map s.look = (ai.w (.one (.own k 0)) :: args).map some) (hp : p8 P f args cs r post) (af : s.mem k = some cs) (gZ : ∀ v ar a8, post v ar a8 → ar = cs) (hi : R i = some r) (ak : cs.all AC.bc = true) (ek : args.all ai.bc = true) (hd : kH dst s.n = true)
  (h : ∀ v ar a8, post v ar a8 → cL P ops dr K rest (bM R i a8) ((s.dV k ar).put dst v)) : cL P ops dr K (⟨dst, .call ⟨.value g, l.toArray, aS⟩, ty, pos, after, guard⟩ :: rest) R s :=
 ML k i hw hm aw aK hp af (.inr gZ) hi ak ek hd h
theorem c3 {x : Operand} {d k off : Nat} {K : aD → Prop} (hw : want ops ⟨some d, .nilCheck x, ty, pos, after, guard⟩ s = some true) (aa : s.look x = some (.w (.one (.own k off)))) (hd : Nat.blt d s.n = true) (h : bj P ops K rest (s.put (some d) (.w (.one (.own k off))))) : bj P ops K (⟨some d, .nilCheck x, ty, pos, after, guard⟩ :: rest) s := by
 refine fO hw ⟨fun _ _ h => (by cases h), fun y ag => ?_, fun U ad W env he => ?_, fun j ae => ⟨x, by simp [Op.operands], _, aa, ae⟩⟩ hd h
 ·simp [Op.operands] at ag;subst ag;exact ⟨_, aa⟩
 ·have hv : env x = .pointer (some ⟨ad k, off, none⟩) := he x (by simp [Op.operands]) _ aa;exact ⟨_, by simp only [execOp, hv]; rfl, rfl⟩
end
section
variable {P : Program}
theorem ej {n : Nat} {cs : List AC} (h : Nat.ble n 1000 = true) : ∀ k ar, cM 1000 cs k = some ar → n ≤ k := fun k ar af => by
 obtain ⟨rfl, _⟩ := hb af;exact dh h
theorem n2 {n : Nat} : ∀ k ar, ca k = some ar → n ≤ k := fun k ar af => by cases af
theorem qs {fn : Func} {l : List ResultVar} {xs : List bG} {R : aJ} {s : aD} {cs ar : List AC} {r a8 : bL} {post : ai → List AC → bL → Prop} (aq : fn.results = l.toArray) (h : l.map (ik P s) = xs.map some) (af : s.mem 1000 = some ar) (hi : R 0 = some a8) (ak : ar.all AC.bc = true) (aa : (packed xs).bc = true)
  (hp : post (packed xs) ar a8) : tv P fn (cM 1000 cs) (bI 0 r) (fun v aH az => ∃ ar a8, aH = cM 1000 ar ∧ az = bI 0 a8 ∧ post v ar a8) R s := by
 refine ⟨xs, packed xs, cM 1000 ar, bI 0 a8, by rw [aq]; exact h, .refl _, ⟨ar, a8, rfl, rfl, hp⟩, fun k c h => ?_, fun i q h => ?_, fun j ae => absurd ae (ai.dw aa j), fun k c x j h aa ae => ?_, fun k c h => ?_, fun i q h => ?_⟩
 ·obtain ⟨rfl, rfl⟩ := hb h; exact af
 ·obtain ⟨rfl, rfl⟩ := fG h; exact hi
 ·obtain ⟨rfl, rfl⟩ := hb h; exact absurd ae (AC.dw (cu.1 ak x aa) j)
 ·obtain ⟨rfl, rfl⟩ := hb h; exact ⟨ar, by unfold cM; exact cr _ _ _⟩
 ·obtain ⟨rfl, rfl⟩ := fG h; exact ⟨a8, by unfold bI; exact cr _ _ _⟩
def AC.xk (k : Nat) : AC → Bool
 | .own j _ => Nat.beq j k
 | _ => true
def ai.xk (k : Nat) : ai → Bool
 | .w x => x.cells.all (AC.xk k)
 | .cZ xs => xs.all fun x => x.cells.all (AC.xk k)
theorem ai.abM {k j : Nat} {x : ai} (h : x.xk k = true) (ae : x.owns j) : j = k := by
 have key : ∀ y : bG, y.cells.all (AC.xk k) = true → y.owns j → j = k := by
  rintro y ag ⟨z, a6, zn⟩;have := cu.1 ag z a6;cases z with
  | own i o => cases zn; exact gS this
  | c v => cases zn
  | p R => cases zn
 cases x with
 | w y => exact key y h ae
 | cZ xs =>
  obtain ⟨y, ag, lM⟩ := ae;exact key y (cu.1 h y ag) lM
end
abbrev afn : ai := aQ (.slice none 0 0)
theorem Oz (z : Nat) : afn.bo (cI z 0 []) := fun U ad W v h => by
 obtain ⟨rfl, _⟩ := h;exact ⟨⟨none, 0, rfl, dL _, by simp, fun h => absurd h (Nat.lt_irrefl _)⟩, fun b ⟨c, a, q, aF, _⟩ => absurd aF (Nat.lt_irrefl _)⟩
section
variable {P : Program} {R : aJ} {s : aD} {ops : Array Oper} {dr : Option (List Nat)} {ty : Nat} {pos : String} {after : Array Edge} {guard : Option (Nat × Bool)} {K : aJ → aD → Prop} {rest : List Oper}
end
end Go.Proofs.YtpochbhajmbfdaaGreat
namespace Go.Proofs.YtpochbhajmbfdaaGreat
open Go
section
variable {P : Program} {ops : Array Oper} {Q : Exit → Act → World → Prop} {md : Region.Mode} {S : World → Prop} {T : Nat → Bool}
def mW (P : Program) (md : Region.Mode) (ops : Array Oper) (Q : Exit → Act → World → Prop) (S : World → Prop) (T : Nat → Bool) : Nat → Array Bool → Act → World → Prop
 | 0, l, a, w => Region.ready md ops l = [] ∧ Q .normal a w
 | n + 1, l, a, w => (Region.ready md ops l = [] → Q .normal a w) ∧ ∀ i ∈ Region.ready md ops l, wpOp P ops Q i (fun a' w' => (T i = true ∨ S w') ∧ mW P md ops Q S T n (l.setIfInBounds i true) a' w') a w
theorem mW.any {n : Nat} : ∀ {l : Array Bool} {a : Act} {w : World}, mW P md ops Q S T n l a w → wpAny P md ops Q n l a w := by
 induction n with
 | zero => exact fun h => h
 | succ n cp => exact fun h => ⟨h.1, fun i hi => wpOp_mono (fun _ _ k => cp k.2) (h.2 i hi)⟩
theorem OB {l : Array Bool} {i j : Nat} {bk : Oper} {e : Edge} (h8 : l.getD i true = false) (ae : j ∈ Region.ready md ops l) (fD : ops[j]? = some bk) (he : e ∈ bk.after) (ab : Region.binds md e = true) : e.on ≠ i := by
 rintro rfl;obtain ⟨_, o, ax, cX⟩ := mem_ready.1 ae;obtain rfl : bk = o := mo (fD.symm.trans ax);have h := cX e he ab;cases hs : l[e.on]? with
 | none => simp [xq, hs] at h8
 | some b => simp [xq, hs] at h8 h; rw [h8] at h; cases h
theorem afj {l : Array Bool} {j m : Nat} (h : (l.setIfInBounds j true).getD m true = false) : l.getD m true = false := by
 by_cases e : j = m
 ·subst e;rw [xq, Array.getElem?_setIfInBounds] at h
  by_cases q : j < l.size
  ·simp [q] at h
  ·rw [if_pos rfl, if_neg q] at h; cases h
 ·rw [getD_set_ne true e] at h; exact h
theorem mW.first {i k : Nat} {bm : Oper} {v : Value} {U : Nat → Prop} (hi : ops[i]? = some bm) (MR : ∀ (j : Nat) (o : Oper) cs b, ops[j]? = some o → o.op ≠ .select cs b)
  (lc : ∀ c a w, Q (.panic c) (a.put bm.dst v) w → Q (.panic c) a w)
  (pq : ∀ j bk, U j → ops[j]? = some bk → j ≠ i → (∀ e ∈ bk.after, Region.binds md e = true → e.on ≠ i) → bm.apart ops bk = true)
  (dY : ∀ j bk, U j → T j = true → ops[j]? = some bk → ∃ e ∈ bk.after, Region.binds md e = true ∧ (e.on = i ∨ e.on = k))
  (af : ∀ ok, ops[k]? = some ok → ∃ e ∈ ok.after, Region.binds md e = true ∧ e.on = i) (n : Nat) :
  ∀ (l : Array Bool) (a : Act) (w : World), (∀ j, l.getD j true = false → U j) → l.getD k true = false → i ∈ Region.ready md ops l → YieldsIf P ops S bm v a → S w →
   mW P md ops Q S T n (l.setIfInBounds i true) (a.put bm.dst v) w → mW P md ops Q S T (n + 1) l a w := by
 induction n with
 | zero =>
  intro l a w _ _ aq ag hS H;refine ⟨fun h => absurd (h ▸ aq) (qK), fun j ae => ?_⟩
  by_cases e : j = i
  ·exact e ▸ ag.wpOp hi hS ⟨.inr hS, H⟩
  ·exact absurd (H.1 ▸ ready_mono ae e) (qK)
 | succ n cp =>
  intro l a w dy an aq ag hS H;have h8 : l.getD i true = false := (mem_ready.1 aq).1;refine ⟨fun h => absurd (h ▸ aq) (qK), fun j ae => ?_⟩
  by_cases e : j = i
  ·exact e ▸ ag.wpOp hi hS ⟨.inr hS, H⟩
  obtain ⟨_, bk, fD, _⟩ := mem_ready.1 ae;have js : ∀ e ∈ bk.after, Region.binds md e = true → e.on ≠ i := fun e he ab => OB h8 ae fD he ab;have L4 : U j := dy j (mem_ready.1 ae).1;refine wpOp_mono (fun a' w' h => ?_) (wpOp_putIf fD (pq j bk L4 fD e js) (fun cs b => MR i bm cs b hi) (fun cs b => MR j bk cs b fD) lc ag (H.2 j (ready_mono ae e)));obtain ⟨Hn, aE | fj, e6⟩ := h
  ·obtain ⟨x, aa, ab, ma | ma⟩ := dY j bk L4 aE fD
   ·exact absurd ma (js x aa ab)
   ·exact absurd ma (OB an ae fD aa ab)
  ·have Zh : j ≠ k := fun gU => by
    subst gU;obtain ⟨x, aa, ab, ma⟩ := af bk fD;exact js x aa ab ma
   refine ⟨.inr fj, cp _ a' w' (fun m hm => dy m (afj hm)) (by rw [getD_set_ne true Zh]; exact an) (ready_mono aq (Ne.symm e)) Hn fj ?_⟩;rw [Array.setIfInBounds_comm _ _ e];exact e6
def NZ (md : Region.Mode) (ops : Array Oper) (T : Nat → Bool) (l : Array Bool) (bm : Oper) (i k : Nat) : Bool :=
 (List.range ops.size).all (fun j => l.getD j true || (j == i || Region.waitsFor md ops j i || (match ops[j]? with | some bk => bm.apart ops bk | none => true)) && (!T j || Region.waitsFor md ops j i || Region.waitsFor md ops j k)) && Region.waitsFor md ops k i && !l.getD k true
theorem EE {i j : Nat} {bk : Oper} (ax : ops[j]? = some bk) (h : Region.waitsFor md ops j i = true) : ∃ e ∈ bk.after, Region.binds md e = true ∧ e.on = i := by
 obtain ⟨o, h2, ap⟩ := Region.waitsFor_spec h;obtain rfl : bk = o := mo (ax.symm.trans h2);exact ap
theorem I7 {i : Nat} (k : Nat) {bm : Oper} {v : Value} {n : Nat} {l : Array Bool} {a : Act} {w : World} (hi : ops[i]? = some bm)
  (hs : Region.noSelect ops = true) (aq : (Region.ready md ops l).contains i = true) (hm : NZ md ops T l bm i k = true)
  (lc : ∀ c a w, Q (.panic c) (a.put bm.dst v) w → Q (.panic c) a w) (ag : YieldsIf P ops S bm v a) (hS : S w)
  (h : mW P md ops Q S T n (l.setIfInBounds i true) (a.put bm.dst v) w) : mW P md ops Q S T (n + 1) l a w := by
 unfold NZ at hm;simp only [dQ, so] at hm;obtain ⟨⟨cX, kn⟩, an⟩ := hm
 have at_ : ∀ j bk, l.getD j true = false → ops[j]? = some bk → (j == i || Region.waitsFor md ops j i || bm.apart ops bk) = true ∧ (!T j || Region.waitsFor md ops j i || Region.waitsFor md ops j k) = true := fun j bk hu ax => by
  have bi : j < ops.size := by
   rcases iL j ops.size with h | h
   ·exact h
   ·rw [vo h] at ax; cases ax
  have := cu.1 cX j (qN.2 bi);rw [ax, hu, Bool.false_or] at this;simpa only [dQ] using this
 refine mW.first (k := k) (U := fun j => l.getD j true = false) hi (Region.noSelect_spec hs) lc (fun j bk hu ax ne js => ?_) (fun j bk hu aE ax => ?_) (fun ok ax => EE ax kn) n l a w (fun _ h => h) an (by simpa using aq) ag hS h
 ·have h1 := (at_ j bk hu ax).1;simp only [qM, beq_iff_eq] at h1;rcases h1 with (h1 | h1) | h1
  ·exact absurd h1 ne
  ·obtain ⟨e, he, ab, ma⟩ := EE ax h1;exact absurd ma (js e he ab)
  ·exact h1
 ·have h1 := (at_ j bk hu ax).2;simp only [aE, Bool.not_true, Bool.false_or, qM] at h1;rcases h1 with h1 | h1
  ·obtain ⟨e, he, ab, ma⟩ := EE ax h1;exact ⟨e, he, ab, .inl ma⟩
  ·obtain ⟨e, he, ab, ma⟩ := EE ax h1;exact ⟨e, he, ab, .inr ma⟩
theorem AA {i : Nat} {o : Oper} {n : Nat} {l : Array Bool} {a : Act} {w : World} (aq : Region.ready md ops l = [i]) (ax : ops[i]? = some o)
  (h : ∀ iu : Act → World → Prop, Shut (∀ a w, (T i = true ∨ S w) → mW P md ops Q S T n (l.setIfInBounds i true) a w → iu a w) → if Region.wanted o (yielded ops a.tmps) = true then Oper.wp P o a w iu Q else iu (a.put o.dst undef) w) :
  mW P md ops Q S T (n + 1) l a w := by
 refine ⟨fun aG => absurd (aq.symm.trans aG) (by simp), fun j ae => ?_⟩;obtain rfl : j = i := by rw [aq] at ae; simpa using ae
 exact wpOp_step ax (fun iu dT => h iu (fun a w x y => dT a w ⟨x, y⟩))
theorem afv {l : Array Bool} {a : Act} {w : World} (aq : Region.ready md ops l = []) (h : Q .normal a w) (n : Nat) : mW P md ops Q S T n l a w := by
 cases n with
 | zero => exact ⟨aq, h⟩
 | succ n => exact ⟨fun _ => h, fun i hi => absurd (aq ▸ hi) (qK)⟩
theorem afx {id : Nat} {a : Act} {w : World} (hm : P.follows .mixedOrders = true)
  (h : mW P .any ops Q S T ops.size (Array.replicate ops.size false) a w.drew) : (Code.region id ops true).wp P Q a w :=
 wp_region_any hm h.any
end
end Go.Proofs.YtpochbhajmbfdaaGreat
namespace Go.Proofs.YtpochbhajmbfdaaGreat
open Go.RowKit
end Go.Proofs.YtpochbhajmbfdaaGreat
namespace Go.Proofs.YtpochbhajmbfdaaGreat
open Go.RowKit
end Go.Proofs.YtpochbhajmbfdaaGreat
namespace Go.Proofs.YtpochbhajmbfdaaGreat
open Go.RowKit
theorem M1 {a b : Int} (h : a < b) : fJ a b = -1 := by unfold fJ; rw [if_neg (by omega), if_pos h]
theorem YT {a b : Int} (h : b < a) : fJ a b = 1 := by unfold fJ; rw [if_neg (by omega), if_neg (by omega)]
end Go.Proofs.YtpochbhajmbfdaaGreat
namespace Go.Proofs.YtpochbhajmbfdaaGreat
open Go.RowKit
end Go.Proofs.YtpochbhajmbfdaaGreat
namespace Go.Proofs.YtpochbhajmbfdaaGreat
open Go.RowKit
end Go.Proofs.YtpochbhajmbfdaaGreat
namespace Go.Proofs.YtpochbhajmbfdaaGreat
open Go.RowKit
end Go.Proofs.YtpochbhajmbfdaaGreat
namespace Go.Proofs.YtpochbhajmbfdaaGreat
open Go.RowKit
end Go.Proofs.YtpochbhajmbfdaaGreat
namespace Go.Proofs.YtpochbhajmbfdaaGreat
open Go.RowKit
theorem YS {a b : Int} : (fJ a b ≥ 0) ↔ b ≤ a := by
 unfold fJ
 repeat' split
 all_goals omega
end Go.Proofs.YtpochbhajmbfdaaGreat
namespace Go.Proofs.YtpochbhajmbfdaaGreat
open Go.RowKit
end Go.Proofs.YtpochbhajmbfdaaGreat
namespace Go.Proofs.YtpochbhajmbfdaaGreat
open Go.RowKit
end Go.Proofs.YtpochbhajmbfdaaGreat
namespace Go.Proofs.YtpochbhajmbfdaaGreat
open Go.RowKit
theorem Py (j : Nat) : (0 : Int) < 2 ^ j ∧ (2 : Int) ^ j < 10000 ^ (j + 1) := by
 induction j with
 | zero => decide
 | succ j cp => rw [Int.pow_succ, Int.pow_succ (10000 : Int) (j + 1)]; omega
end Go.Proofs.YtpochbhajmbfdaaGreat
namespace Go.Proofs
open Go.Shelf
def Tryz.Z0 : Go.Shelf.Ren := ⟨fun | 134 => 305 | 129 => 300 | n => n, fun | 53 => 157 | 3 => 3 | 4 => 4 | 46 => 253 | 5 => 5 | 9 => 9 | n => n, fun | n => n⟩
theorem Tryz.ZZ : Go.Proofs.Lays.n134 aj Tryz.Z0 := {
 mixed := by kernel_rfl
 f129 := Tryz.func300.trans (congrArg some (by kernel_rfl))
 f134 := Tryz.func305.trans (congrArg some (by kernel_rfl))
 t3 := Tryz.underlying3
 a3 := Tryz.isAgg3
 z3 := Tryz.sizeOf3
 v3 := Tryz.zeroValue3
 t4 := Tryz.underlying4
 a4 := Tryz.isAgg4
 z4 := Tryz.sizeOf4
 v4 := Tryz.zeroValue4
 t5 := Tryz.underlying5
 a5 := Tryz.isAgg5
 z5 := Tryz.sizeOf5
 v5 := Tryz.zeroValue5
 t9 := Tryz.underlying9
 a9 := Tryz.isAgg9
 z9 := Tryz.sizeOf9
 v9 := Tryz.zeroValue9
 t46 := Tryz.underlying253
 a46 := Tryz.isAgg253
 z46 := Tryz.sizeOf253
 v46 := Tryz.zeroValue253
 t53 := Tryz.underlying157
 a53 := Tryz.isAgg157
 z53 := Tryz.sizeOf157
 v53 := Tryz.zeroValue157 }
theorem Tryz.bits_LeadingZeros64 (x : Int) (w : World) (aG : 0 ≤ x) (h1 : x ≤ 18446744073709551615) :
  Calls aj 305 #[.int .u64 x] w fun e w' => e = .returned (.int .i64 (64 - (Lib.bitLen x.toNat : Int))) ∧ w' = w := Any.bits_LeadingZeros64 Tryz.ZZ x w aG h1
def Tryz.ZY : Go.Shelf.Ren := ⟨fun | 129 => 300 | n => n, fun | 53 => 157 | 3 => 3 | 4 => 4 | 46 => 253 | 5 => 5 | 9 => 9 | n => n, fun | n => n⟩
theorem Tryz.ZX : Go.Proofs.Lays.n129 aj Tryz.ZY := {
 mixed := by kernel_rfl
 f129 := Tryz.func300.trans (congrArg some (by kernel_rfl))
 t3 := Tryz.underlying3
 a3 := Tryz.isAgg3
 z3 := Tryz.sizeOf3
 v3 := Tryz.zeroValue3
 t4 := Tryz.underlying4
 a4 := Tryz.isAgg4
 z4 := Tryz.sizeOf4
 v4 := Tryz.zeroValue4
 t5 := Tryz.underlying5
 a5 := Tryz.isAgg5
 z5 := Tryz.sizeOf5
 v5 := Tryz.zeroValue5
 t9 := Tryz.underlying9
 a9 := Tryz.isAgg9
 z9 := Tryz.sizeOf9
 v9 := Tryz.zeroValue9
 t46 := Tryz.underlying253
 a46 := Tryz.isAgg253
 z46 := Tryz.sizeOf253
 v46 := Tryz.zeroValue253
 t53 := Tryz.underlying157
 a53 := Tryz.isAgg157
 z53 := Tryz.sizeOf157
 v53 := Tryz.zeroValue157 }
theorem Tryz.bits_Len64 (x : Int) (w : World) (aG : 0 ≤ x) (h1 : x ≤ 18446744073709551615) :
  Calls aj 300 #[.int .u64 x] w fun e w' => e = .returned (.int .i64 (Lib.bitLen x.toNat)) ∧ w' = w := Any.bits_Len64 Tryz.ZX x w aG h1
def Tryz.Z2 : Go.Shelf.Ren := ⟨fun | 264 => 258 | n => n, fun | 53 => 157 | 46 => 253 | n => n, fun | n => n⟩
theorem Tryz.Z1 : Go.Proofs.Lays.n264 aj Tryz.Z2 := {
 mixed := by kernel_rfl
 f264 := Tryz.func258.trans (congrArg some (by kernel_rfl))
 t46 := Tryz.underlying253
 a46 := Tryz.isAgg253
 z46 := Tryz.sizeOf253
 v46 := Tryz.zeroValue253
 t53 := Tryz.underlying157
 a53 := Tryz.isAgg157
 z53 := Tryz.sizeOf157
 v53 := Tryz.zeroValue157 }
open Go.RowKit Go.Lib in
theorem Tryz.bits_Mul64 (x y : Nat) (aa : x < 18446744073709551616) (ag : y < 18446744073709551616) (w : World) :
  Calls aj 258 #[.int .u64 x, .int .u64 y] w fun e w' => e = .returned (.tuple #[.int .u64 ((x * y / 18446744073709551616 : Nat) : Int), .int .u64 ((x * y % 18446744073709551616 : Nat) : Int)]) ∧ w' = w := Any.bits_Mul64 Tryz.Z1 x y aa ag w
end Go.Proofs
namespace Go.Proofs.YtpochbhajmbfdaaGreat
open Go.RowKit
theorem cJ.conv {H L n m : Int} (h : cJ H L n) (e : n = m) : cJ H L m := e ▸ h
theorem size_pos {h l n : Int} (H : bt h l n) (k : 0 ≤ h) : cJ (IntKind.u64.wrap h) l n.natAbs := by
  obtain ⟨b1, b2, rfl⟩ := H;unfold cJ;rw [IntKind.wrap_u64];omega
theorem aey {h l n a b : Int} (H : bt h l n) (K : bt a b (wr (0 - n))) (k : h < 0) : cJ (IntKind.u64.wrap a) b n.natAbs := by
  obtain ⟨b1, b2, rfl⟩ := H;obtain ⟨ed, dD, e⟩ := K;unfold wr at e;unfold cJ;rw [IntKind.wrap_u64];omega
theorem Ao (h1 l1 n : Int) (w : World) (H1 : bt h1 l1 n) :
    Calls aj 279 #[.agg #[.int .i64 h1, .int .u64 l1]] w (aT n.natAbs w) := by
  go_enter Tryz.func279, Tryz.ntmps279
  go_wp2_with (go_at_call 245; refine (zJ _ _ _ _ _ _ _ oq H1).mono ?_; rintro e aO ⟨fX, hE, rfl, hs, ab⟩; have ye := Below.cell ab (p := ⟨w.heap.size, 0, none⟩) (by (simp; omega)); have yx := Below.frozen ab (p := ⟨w.heap.size, 0, none⟩) (by (simp; omega)); have yf := Below.cell ab (p := ⟨w.heap.size, 1, none⟩) (by (simp; omega)); have yy := Below.frozen ab (p := ⟨w.heap.size, 1, none⟩) (by (simp; omega)); have BG := Below.cell ab (p := ⟨w.heap.size + 1, 0, none⟩) (by (simp; done)); have B7 := Below.frozen ab (p := ⟨w.heap.size + 1, 0, none⟩) (by (simp; done)); have BH := Below.cell ab (p := ⟨w.heap.size + 1, 1, none⟩) (by (simp; done)); have B8 := Below.frozen ab (p := ⟨w.heap.size + 1, 1, none⟩) (by (simp; done)); have nu := Below.size ab; (try simp at nu); have xe : ¬ aO.heap.size = w.heap.size := (by omega); have zO : ¬ aO.heap.size = w.heap.size + 1 := (by omega))
  · refine bodyPost_ret (v := .agg #[.int .u64 (IntKind.u64.wrap fX), .int .u64 hE]) (by simp only [results, Tryz.results279]; go_simp) rfl ⟨_, _, rfl, aey H1 hs ‹_›, ?_⟩
    (repeat first | with_reducible exact Below.refl _ _ | with_reducible refine cT ?_ _ | focus ((with_reducible refine eG ?_ _ _ _ ?_); rotate_left; omega) | with_reducible refine b0 ?_ ab)
  · refine bodyPost_ret (v := .agg #[.int .u64 (IntKind.u64.wrap h1), .int .u64 l1]) (by simp only [results, Tryz.results279]; go_simp) rfl ⟨_, _, rfl, size_pos H1 ‹_›, ?_⟩
    (repeat first | with_reducible exact Below.refl _ _ | with_reducible refine cT ?_ _)
theorem aev {h l n : Int} (H : cJ h l n) : bt (wrap64 h) l (wr n) := by
  obtain ⟨b1, b2, rfl⟩ := H;unfold bt wr wrap64;omega
theorem Qp {h l n : Int} (H : cJ h l n) (k : fI h l 0 0 = true ∨ 0 ≤ wrap64 h) : fits n = true ∧ bt (wrap64 h) l n := by
  rw [H.fI zr, cB] at k;obtain ⟨b1, b2, rfl⟩ := H;unfold fits bt wrap64 at *;rw [cB];omega
theorem aek {h l n : Int} (H : cJ h l n) (j : fI h l 0 0 = false) (k : wrap64 h < 0) : fits n = false := by
  rw [H.fI zr, ll] at j;obtain ⟨b1, b2, rfl⟩ := H;unfold fits wrap64 at *;rw [ll];omega
theorem Qo {h l n a b : Int} (H : cJ h l n) (K : bt a b (wr (0 - wr n))) (k : fI h l 0 0 = true ∨ a < 0) : fits (-n) = true ∧ bt a b (-n) := by
  rw [H.fI zr, cB] at k;obtain ⟨b1, b2, rfl⟩ := H;obtain ⟨ed, dD, e⟩ := K;unfold wr at e;unfold fits bt;rw [cB];omega
theorem aeh {h l n a b : Int} (H : cJ h l n) (K : bt a b (wr (0 - wr n))) (j : fI h l 0 0 = false) (k : 0 ≤ a) : fits (-n) = false := by
  rw [H.fI zr, ll] at j;obtain ⟨b1, b2, rfl⟩ := H;obtain ⟨ed, dD, e⟩ := K;unfold wr at e;unfold fits;rw [ll];omega
theorem IP (h1 l1 n : Int) (w : World) (H1 : cJ h1 l1 n) :
    Calls aj 280 #[.agg #[.int .u64 h1, .int .u64 l1], .bool false] w (lZ n w) := by
  go_enter Tryz.func280, Tryz.ntmps280
  go_wp2
  · refine bodyPost_ret (v := .tuple #[.agg #[.int .i64 0, .int .u64 0], .bool false]) (by simp only [results, Tryz.results280]; go_simp) rfl (vw (aek H1 ‹_› ‹_›) ?_)
    (repeat first | with_reducible exact Below.refl _ _ | with_reducible refine cT ?_ _)
  · have ag := Qp H1 (.inr ‹_›)
    refine bodyPost_ret (v := .tuple #[.agg #[.int .i64 (wrap64 h1), .int .u64 l1], .bool true]) (by simp only [results, Tryz.results280]; go_simp) rfl (sE ag.1 ag.2 ?_);(repeat first | with_reducible exact Below.refl _ _ | with_reducible refine cT ?_ _)
  · have ag := Qp H1 (.inl ‹_›)
    refine bodyPost_ret (v := .tuple #[.agg #[.int .i64 (wrap64 h1), .int .u64 l1], .bool true]) (by simp only [results, Tryz.results280]; go_simp) rfl (sE ag.1 ag.2 ?_);(repeat first | with_reducible exact Below.refl _ _ | with_reducible refine cT ?_ _)
theorem IM (h1 l1 n : Int) (w : World) (H1 : cJ h1 l1 n) :
    Calls aj 280 #[.agg #[.int .u64 h1, .int .u64 l1], .bool true] w (lZ (-n) w) := by
  go_enter Tryz.func280, Tryz.ntmps280
  go_wp2_with (go_at_call 245; refine (zJ _ _ _ _ _ _ _ oq (aev H1)).mono ?_; rintro e aO ⟨fX, hE, rfl, hs, ab⟩; have ye := Below.cell ab (p := ⟨w.heap.size, 0, none⟩) (by (simp; omega)); have yx := Below.frozen ab (p := ⟨w.heap.size, 0, none⟩) (by (simp; omega)); have yf := Below.cell ab (p := ⟨w.heap.size, 1, none⟩) (by (simp; omega)); have yy := Below.frozen ab (p := ⟨w.heap.size, 1, none⟩) (by (simp; omega)); have BG := Below.cell ab (p := ⟨w.heap.size + 1, 0, none⟩) (by (simp; done)); have B7 := Below.frozen ab (p := ⟨w.heap.size + 1, 0, none⟩) (by (simp; done)); have BH := Below.cell ab (p := ⟨w.heap.size + 1, 1, none⟩) (by (simp; done)); have B8 := Below.frozen ab (p := ⟨w.heap.size + 1, 1, none⟩) (by (simp; done)); have nu := Below.size ab; (try simp at nu); have xe : ¬ aO.heap.size = w.heap.size := (by omega); have zO : ¬ aO.heap.size = w.heap.size + 1 := (by omega))
  · refine bodyPost_ret (v := .tuple #[.agg #[.int .i64 0, .int .u64 0], .bool false]) (by simp only [results, Tryz.results280]; go_simp) rfl (vw (aeh H1 hs ‹_› (by have h := ‹(!decide (fX < 0)) = true›; simpa using h)) ?_)
    (repeat first | with_reducible exact Below.refl _ _ | with_reducible refine cT ?_ _ | focus ((with_reducible refine eG ?_ _ _ _ ?_); rotate_left; omega) | with_reducible refine b0 ?_ ab)
  · have ag := Qo H1 hs (.inr (by have h := ‹(!decide (fX < 0)) = false›; simpa using h))
    refine bodyPost_ret (v := .tuple #[.agg #[.int .i64 fX, .int .u64 hE], .bool true]) (by simp only [results, Tryz.results280]; go_simp) rfl (sE ag.1 ag.2 ?_);(repeat first | with_reducible exact Below.refl _ _ | with_reducible refine cT ?_ _ | focus ((with_reducible refine eG ?_ _ _ _ ?_); rotate_left; omega) | with_reducible refine b0 ?_ ab)
  · have ag := Qo H1 hs (.inl ‹_›)
    refine bodyPost_ret (v := .tuple #[.agg #[.int .i64 fX, .int .u64 hE], .bool true]) (by simp only [results, Tryz.results280]; go_simp) rfl (sE ag.1 ag.2 ?_);(repeat first | with_reducible exact Below.refl _ _ | with_reducible refine cT ?_ _ | focus ((with_reducible refine eG ?_ _ _ _ ?_); rotate_left; omega) | with_reducible refine b0 ?_ ab)
theorem Qu (h1 l1 n : Int) (b : Bool) (w : World) (H1 : cJ h1 l1 n) :
    Calls aj 280 #[.agg #[.int .u64 h1, .int .u64 l1], .bool b] w (lZ (if b then -n else n) w) := by
  cases b
  · exact IP h1 l1 n w H1
  · exact IM h1 l1 n w H1
theorem aaa (h1 l1 n h2 l2 m : Int) (w : World) (H1 : cJ h1 l1 n) (b8 : cJ h2 l2 m) :
    Calls aj 304 #[.agg #[.int .u64 h1, .int .u64 l1], .agg #[.int .u64 h2, .int .u64 l2]] w (gL (.bool (decide (n < m))) w) := by
  go_enter Tryz.func304, Tryz.ntmps304
  go_wp2
  all_goals
    go_ret
    refine ⟨PZ ?_, by (repeat first | with_reducible exact Below.refl _ _ | with_reducible refine cT ?_ _)⟩;obtain ⟨b1, b2, aI⟩ := H1;obtain ⟨ed, dD, aN⟩ := b8;rw [oK];simp only [cB, true_iff, nG, false_iff];omega
theorem aeU (h1 l1 h2 l2 : Int) (b1 : 0 ≤ h1 ∧ h1 < 18446744073709551616) (b2 : 0 ≤ l1 ∧ l1 < 18446744073709551616)
   (ed : 0 ≤ h2 ∧ h2 < 18446744073709551616) (dD : 0 ≤ l2 ∧ l2 < 18446744073709551616) (hle : h2 * 18446744073709551616 + l2 ≤ h1 * 18446744073709551616 + l1) :
   cJ ((h1 - h2 - -((l1 - l2 - 0) / 18446744073709551616)) % 18446744073709551616) ((l1 - l2 - 0) % 18446744073709551616) ((h1 * 18446744073709551616 + l1) - (h2 * 18446744073709551616 + l2)) := by
  unfold cJ;omega
theorem Qz (h1 l1 n h2 l2 m : Int) (w : World) (H1 : cJ h1 l1 n) (b8 : cJ h2 l2 m) (hle : m ≤ n) :
    Calls aj 303 #[.agg #[.int .u64 h1, .int .u64 l1], .agg #[.int .u64 h2, .int .u64 l2]] w (aT (n - m) w) := by
  obtain ⟨b1, b2, rfl⟩ := H1;obtain ⟨ed, dD, rfl⟩ := b8;have hv := aeU h1 l1 h2 l2 b1 b2 ed dD hle;have aI := fun w => Eo l1 l2 0 b2.1 b2.2 dD.1 dD.2 (by omega) (by omega) w;have aN := fun w => Eo h1 h2 (-((l1 - l2 - 0) / 18446744073709551616)) b1.1 b1.2 ed.1 ed.2 (by omega) (by omega) w;generalize -((l1 - l2 - 0) / 18446744073709551616) = c at *;generalize (l1 - l2 - 0) % 18446744073709551616 = s at *;generalize (h1 - h2 - c) % 18446744073709551616 = s' at *;generalize -((h1 - h2 - c) / 18446744073709551616) = c' at *;generalize (h1 * 18446744073709551616 + l1) - (h2 * 18446744073709551616 + l2) = OA at *;clear b1 b2 ed dD hle
  go_enter Tryz.func303, Tryz.ntmps303
  go_wp2
  refine bodyPost_ret (v := .agg #[.int .u64 s', .int .u64 s]) (by simp only [results, Tryz.results303]; go_simp) rfl ⟨_, _, rfl, hv, ?_⟩;(repeat first | with_reducible exact Below.refl _ _ | with_reducible refine cT ?_ _)
end Go.Proofs.YtpochbhajmbfdaaGreat
namespace Go.Proofs.YtpochbhajmbfdaaGreat
def p6 (n len : Nat) : Prop := (n = 0 ∧ len = 0) ∨ (1 ≤ len ∧ len ≤ 128 ∧ 2 ^ (len - 1) ≤ n ∧ n < 2 ^ len)
theorem qY : (2 : Nat) ^ 64 = 18446744073709551616 := by decide
theorem QJ : (2 : Nat) ^ 128 = 340282366920938463463374607431768211456 := by decide
theorem NJ (l : Nat) (h : l < 18446744073709551616) : p6 l (Lib.bitLen l) := by
  by_cases e : l = 0
  · subst e
    exact .inl ⟨rfl, Lib.bitLenAux_zero 64⟩
  · obtain ⟨a, b, c⟩ := Lib.bitLenAux_bounds 64 l (by rw [qY]; exact h) e
    have d : Lib.bitLen l ≤ 64 := Lib.bitLen_le l 64 (dL _) (by rw [qY]; exact h);exact .inr ⟨a, by omega, b, c⟩
theorem Z6 (h l : Nat) (aG : h ≠ 0) (aY : h < 18446744073709551616) (an : l < 18446744073709551616) : p6 (h * 18446744073709551616 + l) (64 + Lib.bitLen h) ∧ Lib.bitLen h ≤ 64 := by
  obtain ⟨a, b, c⟩ := Lib.bitLenAux_bounds 64 h (by rw [qY]; exact aY) aG;have d : Lib.bitLen h ≤ 64 := Lib.bitLen_le h 64 (dL _) (by rw [qY]; exact aY);have e : Lib.bitLenAux 64 h = Lib.bitLen h := rfl;rw [e] at a b c;refine ⟨.inr ⟨by omega, by omega, ?_, ?_⟩, d⟩
  · rw [show 64 + Lib.bitLen h - 1 = (Lib.bitLen h - 1) + 64 by omega, Nat.pow_add, qY]
    generalize 2 ^ (Lib.bitLen h - 1) = P at *;omega
  · rw [show 64 + Lib.bitLen h = Lib.bitLen h + 64 by omega, Nat.pow_add, qY]
    generalize 2 ^ Lib.bitLen h = P at *;omega
theorem Z7 {n len : Nat} (h : p6 n len) : len ≤ 128 := by rcases h with h | h <;> omega
theorem Z8 {n len k : Nat} (h : p6 n len) (aG : n ≠ 0) (af : 128 < k + len) : 340282366920938463463374607431768211456 ≤ n * 2 ^ k := by
  rcases h with h | ⟨a, b, c, d⟩
  · omega
  · have h1 := jZ (2 ^ k) c
    rw [← Nat.pow_add] at h1;have h2 : 2 ^ 128 ≤ 2 ^ (len - 1 + k) := Nat.pow_le_pow_right (by decide) (by omega);rw [QJ] at h2;omega
theorem Z9 {n len k : Nat} (h : p6 n len) (af : k + len ≤ 128) : n * 2 ^ k < 340282366920938463463374607431768211456 := by
  rcases h with ⟨rfl, rfl⟩ | ⟨a, b, c, d⟩
  · simp
  · have h1 := Nat.mul_lt_mul_of_pos_right d (Nat.two_pow_pos k)
    rw [← Nat.pow_add] at h1;have h2 : 2 ^ (len + k) ≤ 2 ^ 128 := Nat.pow_le_pow_right (by decide) (by omega);rw [QJ] at h2;omega
theorem aeo (h l k : Nat) (an : l < 18446744073709551616) (af : k < 64) (ab : (h * 18446744073709551616 + l) * 2 ^ k < 340282366920938463463374607431768211456) :
    h * 2 ^ k < 18446744073709551616 ∧ l / 2 ^ (64 - k) < 2 ^ k ∧ h * 2 ^ k + l / 2 ^ (64 - k) < 18446744073709551616 ∧
    (h * 18446744073709551616 + l) * 2 ^ k = (h * 2 ^ k + l / 2 ^ (64 - k)) * 18446744073709551616 + (l * 2 ^ k) % 18446744073709551616 := by
  have Io : 2 ^ k * 2 ^ (64 - k) = 18446744073709551616 := by rw [← Nat.pow_add, show k + (64 - k) = 64 by omega, qY]
  have ac8 : 0 < 2 ^ k := Nat.two_pow_pos k;have PP : 0 < 2 ^ (64 - k) := Nat.two_pow_pos _;generalize 2 ^ k = p at *;generalize 2 ^ (64 - k) = q at *;have hd : l / q < p := by rw [Nat.div_lt_iff_lt_mul PP, Io]; exact an
  have aI : l * p = 18446744073709551616 * (l / q) + p * (l % q) := by
    conv => lhs; rw [← Nat.div_add_mod l q]
    rw [jY, ← Io, Nat.mul_comm (l % q) p, Nat.mul_assoc p q, Nat.mul_comm (q * (l / q)) p]
  have aN : p * (l % q) < 18446744073709551616 := by rw [← Io]; exact Nat.mul_lt_mul_of_pos_left (Nat.mod_lt _ PP) ac8
  have cC : (l * p) % 18446744073709551616 = p * (l % q) := by rw [aI, Nat.mul_add_mod, Nat.mod_eq_of_lt aN]
  have eH : (h * 18446744073709551616 + l) * p = h * p * 18446744073709551616 + l * p := by rw [jY, Nat.mul_right_comm]
  rw [eH] at ab;refine ⟨by omega, hd, by omega, ?_⟩;rw [eH, cC, jY];omega
theorem Ib (h l k : Nat) (h1 : h * 2 ^ k < 18446744073709551616) (h2 : l < 2 ^ k) (ap : h * 2 ^ k + l < 18446744073709551616) :
    bits .or .u64 ((h * 2 ^ k : Nat) : Int) (l : Int) = ((h * 2 ^ k + l : Nat) : Int) := by
  rw [bits_or_u64_nat _ _ h1 (by omega), Nat.mul_comm h, ← Nat.two_pow_add_eq_or_of_lt h2]
theorem Qr (h l k : Int) (uC : 0 ≤ h) (sY : 0 ≤ l ∧ l < 18446744073709551616) (Kq : 0 ≤ k ∧ k < 64) (ab : (h * 18446744073709551616 + l) * 2 ^ k.toNat < 340282366920938463463374607431768211456) :
    ∃ H, bits .or .u64 (IntKind.u64.wrap (h * 2 ^ k.toNat)) (l / 2 ^ (64 - k).toNat) = H ∧ (0 ≤ H ∧ H < 18446744073709551616) ∧ (h * 18446744073709551616 + l) * 2 ^ k.toNat = H * 18446744073709551616 + IntKind.u64.wrap (l * 2 ^ k.toNat) := by
  obtain ⟨a, rfl⟩ := mn uC;obtain ⟨b, rfl⟩ := mn sY.1;obtain ⟨c, rfl⟩ := mn Kq.1;have Fv : c < 64 := by omega
  rw [show (64 - (c : Int)).toNat = 64 - c by omega, kw] at *
  have c5 : (a * 18446744073709551616 + b) * 2 ^ c < 340282366920938463463374607431768211456 := by
    have e : ((a : Int) * 18446744073709551616 + b) * 2 ^ c = (((a * 18446744073709551616 + b) * 2 ^ c : Nat) : Int) := by simp
    rw [e] at ab;omega
  obtain ⟨s1, s2, bO, bT⟩ := aeo a b c (by omega) Fv c5
  have aO : IntKind.u64.wrap ((a : Int) * 2 ^ c) = ((a * 2 ^ c : Nat) : Int) := by
    rw [show (a : Int) * 2 ^ c = ((a * 2 ^ c : Nat) : Int) by simp, IntKind.wrap_u64];omega
  have w2 : (b : Int) / 2 ^ (64 - c) = ((b / 2 ^ (64 - c) : Nat) : Int) := by simp
  have w3 : IntKind.u64.wrap ((b : Int) * 2 ^ c) = ((b * 2 ^ c % 18446744073709551616 : Nat) : Int) := by
    rw [show (b : Int) * 2 ^ c = ((b * 2 ^ c : Nat) : Int) by simp, IntKind.wrap_u64];omega
  refine ⟨_, rfl, ?_, ?_⟩
  · rw [aO, w2, Ib _ _ _ s1 s2 bO]
    omega
  · rw [aO, w2, Ib _ _ _ s1 s2 bO, w3]
    rw [show ((a : Int) * 18446744073709551616 + b) * 2 ^ c = (((a * 18446744073709551616 + b) * 2 ^ c : Nat) : Int) by simp, bT];omega
theorem aen (h l k : Int) (uC : 0 ≤ h) (sY : 0 ≤ l) (Kq : 64 ≤ k) (ab : (h * 18446744073709551616 + l) * 2 ^ k.toNat < 340282366920938463463374607431768211456) :
    (0 ≤ IntKind.u64.wrap (l * 2 ^ (k - 64).toNat) ∧ IntKind.u64.wrap (l * 2 ^ (k - 64).toNat) < 18446744073709551616) ∧ (h * 18446744073709551616 + l) * 2 ^ k.toNat = IntKind.u64.wrap (l * 2 ^ (k - 64).toNat) * 18446744073709551616 + 0 := by
  obtain ⟨a, rfl⟩ := mn uC;obtain ⟨b, rfl⟩ := mn sY;obtain ⟨c, rfl⟩ : ∃ c : Nat, k = c + 64 := ⟨(k - 64).toNat, by omega⟩;rw [show ((c : Int) + 64 - 64).toNat = c by omega, show ((c : Int) + 64).toNat = c + 64 by omega] at *
  have e : ((a : Int) * 18446744073709551616 + b) * 2 ^ (c + 64) = (((a * 18446744073709551616 + b) * 2 ^ c * 18446744073709551616 : Nat) : Int) := by
    rw [Int.pow_add, ← lp];simp
  rw [e] at ab ⊢;rw [show (b : Int) * 2 ^ c = ((b * 2 ^ c : Nat) : Int) by simp, IntKind.wrap_u64];have hp : 0 < 2 ^ c := Nat.two_pow_pos c
  have aK : a = 0 := by
    rcases vp a with h | h
    · exact h
    · exfalso
      have h1 : 18446744073709551616 * 1 ≤ (a * 18446744073709551616 + b) * 2 ^ c := Nat.mul_le_mul (by omega) hp;omega
  subst aK;rw [Nat.zero_mul, jF] at *;omega
end Go.Proofs.YtpochbhajmbfdaaGreat
namespace Go.Proofs.YtpochbhajmbfdaaGreat
open Go.RowKit
def Sj (n : Int) (w : World) (e : Ending) (w' : World) : Prop := ∃ H L, e = .returned (.tuple #[.int .u64 H, .int .u64 L]) ∧ cJ H L n ∧ w = w'
theorem aaI {x y : Nat} (aa : x < 18446744073709551616) (ag : y < 18446744073709551616) : x * y < 18446744073709551616 * 18446744073709551616 := Nat.mul_lt_mul'' aa ag
theorem xc (x y : Int) (w : World) (aa : 0 ≤ x ∧ x < 18446744073709551616) (ag : 0 ≤ y ∧ y < 18446744073709551616) :
    Calls aj 258 #[.int .u64 x, .int .u64 y] w (Sj (x * y) w) := by
  obtain ⟨X, rfl⟩ := mn aa.1;obtain ⟨Y, rfl⟩ := mn ag.1;refine (Tryz.bits_Mul64 X Y (by omega) (by omega) w).mono ?_;rintro e w' ⟨rfl, rfl⟩;have an := aaI (x := X) (y := Y) (by omega) (by omega);refine ⟨_, _, rfl, ?_, rfl⟩;rw [show (X : Int) * (Y : Int) = ((X * Y : Nat) : Int) from (Int.natCast_mul X Y).symm];generalize X * Y = p at *;unfold cJ;omega
def kK (n : Int) : Bool := decide (n < 340282366920938463463374607431768211456)
def vS (n : Int) (w : World) (e : Ending) (w' : World) : Prop := ∃ H L, e = .returned (.tuple #[.agg #[.int .u64 H, .int .u64 L], .bool (kK n)]) ∧ cJ H L (if kK n then n else 0) ∧ Below w.heap.size w w'
theorem Qe {n H L : Int} {w w' : World} (h : kK n = true) (k : cJ H L n) (b : Below w.heap.size w w') : vS n w (.returned (.tuple #[.agg #[.int .u64 H, .int .u64 L], .bool true])) w' := ⟨H, L, by rw [h], by rw [h]; exact k, b⟩
theorem Af {n : Int} {w w' : World} (h : kK n = false) (b : Below w.heap.size w w') : vS n w (.returned (.tuple #[.agg #[.int .u64 0, .int .u64 0], .bool false])) w' := ⟨0, 0, by rw [h], by rw [h]; exact zr, b⟩
theorem TP {h1 l1 n h2 l2 m : Int} (H1 : cJ h1 l1 n) (b8 : cJ h2 l2 m) (bA : h1 ≠ 0) (b9 : h2 ≠ 0) : kK (n * m) = false := by
  obtain ⟨b1, b2, aI⟩ := H1;obtain ⟨ed, dD, aN⟩ := b8;have aF : 18446744073709551616 ≤ n := by omega
  have hm : 18446744073709551616 ≤ m := by omega
  have h := Int.mul_le_mul aF hm (by omega) (by omega);unfold kK;rw [ll];omega
theorem aaJ (h1 l1 n h2 l2 m : Int) (w : World) (H1 : cJ h1 l1 n) (b8 : cJ h2 l2 m) (bA : h1 ≠ 0) (b9 : h2 ≠ 0) :
    Calls aj 278 #[.agg #[.int .u64 h1, .int .u64 l1], .agg #[.int .u64 h2, .int .u64 l2]] w (vS (n * m) w) := by
  have aF := Lib.hid (TP H1 b8 bA b9);have b1 : (h1 != 0) = true := by simpa using bA
  have b2 : (h2 != 0) = true := by simpa using b9
  clear bA b9
  go_enter Tryz.func278, Tryz.ntmps278
  go_wp2
  refine bodyPost_ret (v := .tuple #[.agg #[.int .u64 0, .int .u64 0], .bool false]) (by simp only [results, Tryz.results278]; go_simp) rfl (Af aF.out ?_);(repeat first | with_reducible exact Below.refl _ _ | with_reducible refine cT ?_ _)
theorem Nc {a b : Int} (h : cJ a b 0) : a = 0 ∧ b = 0 := by
  obtain ⟨b1, b2, e⟩ := h;omega
theorem Oi {o u q hi lo p N : Int} (A : cJ o u q) (C : cJ hi lo p) (e : N = q * 18446744073709551616 + p) :
    (¬ o = 0 → kK N = false) ∧ (o = 0 → ((hi + u) / 18446744073709551616 != 0) = true → kK N = false) ∧
    (o = 0 → ((hi + u) / 18446744073709551616 != 0) = false → kK N = true ∧ cJ ((hi + u) % 18446744073709551616) lo N) := by
  obtain ⟨a1, a2, rfl⟩ := A;obtain ⟨b1, b2, rfl⟩ := C;unfold kK cJ;simp only [bne_iff_ne, bne_eq_false_iff_eq, cB, ll];omega
theorem O1 (x : Int) (h : 0 ≤ x ∧ x < 18446744073709551616) : bits .or .u64 0 x = x ∧ bits .or .u64 x 0 = x := by
  obtain ⟨X, rfl⟩ := mn h.1;have h1 := bits_or_u64_nat 0 X (by omega) (by omega);have h2 := bits_or_u64_nat X 0 (by omega) (by omega);rw [Nat.zero_or] at h1;rw [Nat.or_zero] at h2;exact ⟨h1, h2⟩
theorem aaK (l1 n h2 l2 m : Int) (w : World) (H1 : cJ 0 l1 n) (b8 : cJ h2 l2 m) :
    Calls aj 278 #[.agg #[.int .u64 0, .int .u64 l1], .agg #[.int .u64 h2, .int .u64 l2]] w (vS (n * m) w) := by
  have iP := H1.1; have z2 := H1.2.1; have z3 := b8.1; have z4 := b8.2.1
  go_enter Tryz.func278, Tryz.ntmps278
  go_wp2_with fail
  refine (xc _ _ _ iP z4).mono ?_;rintro e aO ⟨abr, Ev, rfl, dS, rfl⟩;rw [Int.zero_mul] at dS;obtain ⟨rfl, rfl⟩ := Nc dS;clear dS
  go_wp2_with fail
  refine (xc _ _ _ z2 z3).mono ?_;rintro e aO ⟨abt, Ew, rfl, fi, rfl⟩
  go_wp2_with fail
  refine (xc _ _ _ z2 z4).mono ?_;rintro e aO ⟨hi, lo, rfl, hC, rfl⟩;have o1 := (O1 Ew fi.2.1).1;have aI := fun w => Bm hi Ew 0 hC.1.1 fi.2.1.1 (by omega) (by omega) w;rw [Int.add_zero] at aI
  have rU := Oi (N := n * m) fi hC (by
    rw [H1.2.2, b8.2.2, Int.zero_mul, Int.zero_add, Int.mul_add, ← lp])
  obtain ⟨q1, q2, b5⟩ := rU;have my := Lib.hid q1; have mz := Lib.hid q2; have EY := Lib.hid b5;clear q1 q2 b5 iP z2 z3 z4
  go_wp2
  · refine bodyPost_ret (v := .tuple #[.agg #[.int .u64 0, .int .u64 0], .bool false]) (by simp only [results, Tryz.results278]; go_simp) rfl (Af (my.out ‹_›) ?_)
    (repeat first | with_reducible exact Below.refl _ _ | with_reducible refine cT ?_ _)
  · refine bodyPost_ret (v := .tuple #[.agg #[.int .u64 0, .int .u64 0], .bool false]) (by simp only [results, Tryz.results278]; go_simp) rfl (Af (mz.out ‹_› ‹_›) ?_)
    (repeat first | with_reducible exact Below.refl _ _ | with_reducible refine cT ?_ _)
  · have ag := EY.out ‹_› ‹_›
    refine bodyPost_ret (v := .tuple #[.agg #[.int .u64 ((hi + Ew) % 18446744073709551616), .int .u64 lo], .bool true]) (by simp only [results, Tryz.results278]; go_simp) rfl (Qe ag.1 ag.2 ?_);(repeat first | with_reducible exact Below.refl _ _ | with_reducible refine cT ?_ _)
theorem aaL (h1 l1 n l2 m : Int) (w : World) (H1 : cJ h1 l1 n) (b8 : cJ 0 l2 m) (k : h1 ≠ 0) :
    Calls aj 278 #[.agg #[.int .u64 h1, .int .u64 l1], .agg #[.int .u64 0, .int .u64 l2]] w (vS (n * m) w) := by
  have iP := H1.1; have z2 := H1.2.1; have z3 := b8.1; have z4 := b8.2.1;have ZG : (h1 != 0) = true := by simpa using k
  clear k
  go_enter Tryz.func278, Tryz.ntmps278
  go_wp2_with fail
  refine (xc _ _ _ iP z4).mono ?_;rintro e aO ⟨abr, Ev, rfl, dS, rfl⟩
  go_wp2_with fail
  refine (xc _ _ _ z2 z3).mono ?_;rintro e aO ⟨abt, Ew, rfl, fi, rfl⟩;rw [Int.mul_zero] at fi;obtain ⟨rfl, rfl⟩ := Nc fi;clear fi
  go_wp2_with fail
  refine (xc _ _ _ z2 z4).mono ?_;rintro e aO ⟨hi, lo, rfl, hC, rfl⟩;have o1 := (O1 Ev dS.2.1).2;have aI := fun w => Bm hi Ev 0 hC.1.1 dS.2.1.1 (by omega) (by omega) w;rw [Int.add_zero] at aI
  have rU := Oi (N := n * m) dS hC (by
    rw [H1.2.2, b8.2.2, Int.zero_mul, Int.zero_add, Int.add_mul, Int.mul_right_comm])
  obtain ⟨q1, q2, b5⟩ := rU;have my := Lib.hid q1; have mz := Lib.hid q2; have EY := Lib.hid b5;clear q1 q2 b5 iP z2 z3 z4
  go_wp2
  · refine bodyPost_ret (v := .tuple #[.agg #[.int .u64 0, .int .u64 0], .bool false]) (by simp only [results, Tryz.results278]; go_simp) rfl (Af (my.out ‹_›) ?_)
    (repeat first | with_reducible exact Below.refl _ _ | with_reducible refine cT ?_ _)
  · refine bodyPost_ret (v := .tuple #[.agg #[.int .u64 0, .int .u64 0], .bool false]) (by simp only [results, Tryz.results278]; go_simp) rfl (Af (mz.out ‹_› ‹_›) ?_)
    (repeat first | with_reducible exact Below.refl _ _ | with_reducible refine cT ?_ _)
  · have ag := EY.out ‹_› ‹_›
    refine bodyPost_ret (v := .tuple #[.agg #[.int .u64 ((hi + Ev) % 18446744073709551616), .int .u64 lo], .bool true]) (by simp only [results, Tryz.results278]; go_simp) rfl (Qe ag.1 ag.2 ?_);(repeat first | with_reducible exact Below.refl _ _ | with_reducible refine cT ?_ _)
theorem Oj (h1 l1 n h2 l2 m : Int) (w : World) (H1 : cJ h1 l1 n) (b8 : cJ h2 l2 m) :
    Calls aj 278 #[.agg #[.int .u64 h1, .int .u64 l1], .agg #[.int .u64 h2, .int .u64 l2]] w (vS (n * m) w) := by
  by_cases bA : h1 = 0
  · subst bA; exact aaK l1 n h2 l2 m w H1 b8
  · by_cases b9 : h2 = 0
    · subst b9; exact aaL h1 l1 n l2 m w H1 b8 bA
    · exact aaJ h1 l1 n h2 l2 m w H1 b8 bA b9
def Sh (n : Int) (w : World) (e : Ending) (w' : World) : Prop := ∃ k : Nat, e = .returned (.int .i64 k) ∧ p6 n.toNat k ∧ Below w.heap.size w w'
theorem TN (h : Int) (b : 0 ≤ h ∧ h < 18446744073709551616) : Lib.bitLen h.toNat ≤ 64 := Lib.bitLen_le _ 64 (dL _) (by rw [qY]; omega)
theorem Z5 (h1 l1 n : Int) (w : World) (H1 : cJ h1 l1 n) :
    Calls aj 291 #[.agg #[.int .u64 h1, .int .u64 l1]] w (Sh n w) := by
  obtain ⟨b1, b2, e⟩ := H1;have q1 := TN h1 b1
  by_cases k : h1 = 0
  · subst k
    have an : Hid (p6 n.toNat (Lib.bitLen l1.toNat)) := by
      rw [e, show (0 * 18446744073709551616 + l1).toNat = l1.toNat by omega];exact NJ _ (by omega)
    clear e
    go_enter Tryz.func291, Tryz.ntmps291
    go_wp2_with (go_at_call 300; refine (Tryz.bits_Len64 _ _ (by omega) (by omega)).mono ?_; rintro e w' ⟨rfl, rfl⟩)
    go_ret
    exact ⟨_, rfl, an.out, by (repeat first | with_reducible exact Below.refl _ _ | with_reducible refine cT ?_ _)⟩
  · have an : Hid (p6 n.toNat (64 + Lib.bitLen h1.toNat)) := by
      rw [e, show (h1 * 18446744073709551616 + l1).toNat = h1.toNat * 18446744073709551616 + l1.toNat by omega];exact (Z6 _ _ (by omega) (by omega) (by omega)).1
    have ZG : (h1 != 0) = true := by simpa using k
    clear e k
    go_enter Tryz.func291, Tryz.ntmps291
    go_wp2_with (go_at_call 300; refine (Tryz.bits_Len64 _ _ (by omega) (by omega)).mono ?_; rintro e w' ⟨rfl, rfl⟩)
    go_ret
    exact ⟨_, by simp, an.out, by (repeat first | with_reducible exact Below.refl _ _ | with_reducible refine cT ?_ _)⟩
theorem ael (h1 l1 n k : Int) (w : World) (H1 : cJ h1 l1 n) (jy : 64 ≤ k) (bA : k < 128) (ab : n * 2 ^ k.toNat < 340282366920938463463374607431768211456) :
    Calls aj 292 #[.agg #[.int .u64 h1, .int .u64 l1], .int .u64 k] w (aT (n * 2 ^ k.toNat) w) := by
  obtain ⟨b1, b2, e⟩ := H1;rw [e] at ab ⊢;have ri := Lib.hid (aen h1 l1 k b1.1 b2.1 jy ab);clear e ab b1 b2
  go_enter Tryz.func292, Tryz.ntmps292
  go_wp2
  refine bodyPost_ret (v := .agg #[.int .u64 (IntKind.u64.wrap (l1 * 2 ^ (k - 64).toNat)), .int .u64 0]) (by simp only [results, Tryz.results292]; go_simp) rfl ⟨_, _, rfl, ⟨ri.out.1, by omega, ri.out.2⟩, ?_⟩;(repeat first | with_reducible exact Below.refl _ _ | with_reducible refine cT ?_ _)
theorem aem (h1 l1 n k : Int) (w : World) (H1 : cJ h1 l1 n) (jy : 0 ≤ k) (bA : k < 64) (ab : n * 2 ^ k.toNat < 340282366920938463463374607431768211456) :
    Calls aj 292 #[.agg #[.int .u64 h1, .int .u64 l1], .int .u64 k] w (aT (n * 2 ^ k.toNat) w) := by
  obtain ⟨b1, b2, e⟩ := H1;rw [e] at ab ⊢;obtain ⟨H, iF, mG, MW⟩ := Qr h1 l1 k b1.1 b2 ⟨jy, bA⟩ ab;have RP := Lib.hid iF;have RQ := Lib.hid MW;clear e ab b1 b2 iF MW
  go_enter Tryz.func292, Tryz.ntmps292
  go_wp2
  refine bodyPost_ret (v := .agg #[.int .u64 (bits BinOp.or IntKind.u64 (IntKind.u64.wrap (h1 * 2 ^ k.toNat)) (l1 / 2 ^ (64 - k).toNat)), .int .u64 (IntKind.u64.wrap (l1 * 2 ^ k.toNat))]) (by simp only [results, Tryz.results292]; go_simp) rfl ⟨_, _, rfl, ?_, ?_⟩
  · rw [RP.out]
    exact ⟨mG, vB _, RQ.out⟩
  · (repeat first | with_reducible exact Below.refl _ _ | with_reducible refine cT ?_ _)
theorem Qq (h1 l1 n k : Int) (w : World) (H1 : cJ h1 l1 n) (jy : 0 ≤ k) (bA : k < 128) (ab : n * 2 ^ k.toNat < 340282366920938463463374607431768211456) :
    Calls aj 292 #[.agg #[.int .u64 h1, .int .u64 l1], .int .u64 k] w (aT (n * 2 ^ k.toNat) w) := by
  by_cases h : k < 64
  · exact aem h1 l1 n k w H1 jy h ab
  · exact ael h1 l1 n k w H1 (by omega) bA ab
end Go.Proofs.YtpochbhajmbfdaaGreat
namespace Go.Proofs.YtpochbhajmbfdaaGreat
open Go.RowKit
theorem sign_mul {h1 l1 n h2 l2 m : Int} (H1 : bt h1 l1 n) (b8 : bt h2 l2 m) : (if (!decide (h1 < 0) == decide (h2 < 0)) = true then -((n.natAbs : Int) * (m.natAbs : Int)) else (n.natAbs : Int) * (m.natAbs : Int)) = n * m := by
  have bA := H1.neg; have b9 := b8.neg;rcases pK n 0 with a | a <;> rcases pK m 0 with b | b
  · obtain ⟨x, rfl⟩ : ∃ x : Nat, n = -(x : Int) := ⟨n.natAbs, by omega⟩
    obtain ⟨y, rfl⟩ : ∃ y : Nat, m = -(y : Int) := ⟨m.natAbs, by omega⟩;simp [bA.2 a, b9.2 b, Int.neg_mul, Int.mul_neg]
  · obtain ⟨x, rfl⟩ : ∃ x : Nat, n = -(x : Int) := ⟨n.natAbs, by omega⟩
    obtain ⟨y, rfl⟩ : ∃ y : Nat, m = (y : Int) := ⟨m.natAbs, by omega⟩;have : ¬ h2 < 0 := by omega
    simp [bA.2 a, this, Int.neg_mul]
  · obtain ⟨x, rfl⟩ : ∃ x : Nat, n = (x : Int) := ⟨n.natAbs, by omega⟩
    obtain ⟨y, rfl⟩ : ∃ y : Nat, m = -(y : Int) := ⟨m.natAbs, by omega⟩;have : ¬ h1 < 0 := by omega
    simp [b9.2 b, this, Int.mul_neg]
  · obtain ⟨x, rfl⟩ : ∃ x : Nat, n = (x : Int) := ⟨n.natAbs, by omega⟩
    obtain ⟨y, rfl⟩ : ∃ y : Nat, m = (y : Int) := ⟨m.natAbs, by omega⟩;have t1 : ¬ h1 < 0 := by omega
    have t2 : ¬ h2 < 0 := by omega
    simp [t1, t2]
theorem aet {h1 l1 n h2 l2 m : Int} (H1 : bt h1 l1 n) (b8 : bt h2 l2 m) (h : kK (n.natAbs * m.natAbs) = false) : fits (n * m) = false := by
  have e : (n.natAbs : Int) * m.natAbs = ((n * m).natAbs : Int) := by rw [Int.natAbs_mul, Int.natCast_mul]
  rw [e] at h;unfold kK at h;unfold fits;rw [ll] at *;omega
theorem aex {h1 l1 n h2 l2 m ph pl P : Int} (w : World) (H1 : bt h1 l1 n) (b8 : bt h2 l2 m) (e : Hid (P = n.natAbs * m.natAbs)) (hp : cJ ph pl P) :
    Calls aj 280 #[.agg #[.int .u64 ph, .int .u64 pl], .bool (!decide (h1 < 0) == decide (h2 < 0))] w (lZ (n * m) w) := by
  rw [← sign_mul H1 b8, ← e.out];exact Qu ph pl P _ w hp
def R8 (w : World) (N : Int) (a b c d : Value) (pQ vz : Value) (fm : World) : Prop :=
  ∃ (g : Nat) (ph pl : Int), pQ = .pointer (some ⟨g, 0, none⟩) ∧ vz = .bool (kK N) ∧ w.heap.size + 3 ≤ g ∧ cJ ph pl (if kK N then N else 0) ∧
    ah fm g (.int .u64 ph) (.int .u64 pl) ∧ ah fm w.heap.size a b ∧ ah fm (w.heap.size + 1) c d ∧ ah fm (w.heap.size + 1 + 1) (.int .i64 0) (.int .u64 0) ∧ g < fm.heap.size ∧ Below w.heap.size w fm
theorem R9 (h1 l1 n h2 l2 m : Int) (w : World) (H1 : bt h1 l1 n) (b8 : bt h2 l2 m) :
    Calls aj 246 #[.agg #[.int .i64 h1, .int .u64 l1], .agg #[.int .i64 h2, .int .u64 l2]] w (lZ (n * m) w) := by
  have abn : ¬ w.heap.size + 1 + 1 + 1 = w.heap.size := by omega
  have abm : ¬ w.heap.size + 1 + 1 = w.heap.size := by omega
  go_enter Tryz.func246, Tryz.ntmps246
  go_upto_region 1 with fail
  go_cut [6, 7] (fun pQ vz fm => R8 w (n.natAbs * m.natAbs) (.int .i64 h1) (.int .u64 l1) (.int .i64 h2) (.int .u64 l2) pQ vz fm)
  case first =>
    have br : ah (((w.alloc (.cells #[.int .i64 h1, .int .u64 l1] 159)).alloc (.cells #[.int .i64 h2, .int .u64 l2] 159)).alloc (.cells #[.int .i64 0, .int .u64 0] 159)) w.heap.size (.int .i64 h1) (.int .u64 l1) := by (repeat first | focus ((with_reducible refine ah.new ?_); simp; done) | with_reducible refine ah.alloc ?_ _)
    go_region_held3 (fun w' => (w'.cell? ⟨w.heap.size, 0, none⟩ = some (.int .i64 h1) ∧ w'.cell? ⟨w.heap.size, 1, none⟩ = some (.int .u64 l1)) ∧ (w'.cell? ⟨w.heap.size + 1, 0, none⟩ = some (.int .i64 h2) ∧ w'.cell? ⟨w.heap.size + 1, 1, none⟩ = some (.int .u64 l2))) (go_keep)
      (first
        | (go_at_call 279; ((with_reducible refine (Ao h1 l1 n _ H1).mono ?_); rintro e aO ⟨An, aez, rfl, oh, bC⟩; have fW : ah aO (w.heap.size) (.int .i64 h1) (.int .u64 l1) := (by (repeat first | with_reducible assumption | with_reducible refine ah.alloc ?_ _ | with_reducible refine ah.drew ?_ | with_reducible refine ah.call ?_ bC)); obtain ⟨⟨lD, lE⟩, lG, lH⟩ := id fW; have jk : ah aO (w.heap.size + 1) (.int .i64 h2) (.int .u64 l2) := (by (repeat first | focus ((with_reducible refine ah.new ?_); simp; done) | with_reducible refine ah.alloc ?_ _ | with_reducible refine ah.drew ?_ | with_reducible refine ah.call ?_ bC)); obtain ⟨⟨o6, pb⟩, pf, pi⟩ := id jk; have oT : ah aO (w.heap.size + 1 + 1) (.int .i64 0) (.int .u64 0) := (by (repeat first | focus ((with_reducible refine ah.new ?_); simp; done) | with_reducible refine ah.alloc ?_ _ | with_reducible refine ah.drew ?_ | with_reducible refine ah.call ?_ bC)); obtain ⟨⟨wh, wq⟩, wz, wE⟩ := id oT; (try ((refine k5 (p := ah aO (w.heap.size + 1 + 1 + 1) (.int .u64 0) (.int .u64 0)) ?_ ?_); (repeat first | focus ((with_reducible refine ah.new ?_); simp; done) | with_reducible refine ah.alloc ?_ _ | with_reducible refine ah.drew ?_ | with_reducible refine ah.call ?_ bC); intro AJ; obtain ⟨⟨afP, af6⟩, agz, agN⟩ := id AJ; have ahG := ah.lt AJ; have ah5 := ih (ah.lt AJ); have ahW := ij (ah.lt AJ))); have mf := Below.size bC; (try simp at mf); have tL : ¬ aO.heap.size = w.heap.size := (by omega); have vf : ¬ aO.heap.size = w.heap.size + 1 := (by omega); have zL : ¬ aO.heap.size = w.heap.size + 1 + 1 := (by omega); have tc : ¬ w.heap.size = aO.heap.size := (by omega); have uG : ¬ w.heap.size + 1 = aO.heap.size := (by omega); have yt : ¬ w.heap.size + 1 + 1 = aO.heap.size := (by omega); have tI : w.heap.size < aO.heap.size := (by omega); have vc : w.heap.size + 1 < aO.heap.size := (by omega); have zE : w.heap.size + 1 + 1 < aO.heap.size := (by omega)))
        | (go_at_call 279; ((with_reducible refine (Ao h2 l2 m _ b8).mono ?_); rintro e w2 ⟨Eg, aeA, rfl, y7, bW⟩; have iQ : ah w2 (w.heap.size) (.int .i64 h1) (.int .u64 l1) := (by (repeat first | with_reducible assumption | with_reducible refine ah.alloc ?_ _ | with_reducible refine ah.call ?_ bW)); obtain ⟨⟨o7, pc⟩, pg, pj⟩ := id iQ; have lx : ah w2 (w.heap.size + 1) (.int .i64 h2) (.int .u64 l2) := (by (repeat first | with_reducible assumption | with_reducible refine ah.alloc ?_ _ | with_reducible refine ah.call ?_ bW)); obtain ⟨⟨sZ, s8⟩, tf, tk⟩ := id lx; have ly : ah w2 (w.heap.size + 1 + 1) (.int .i64 0) (.int .u64 0) := (by (repeat first | with_reducible assumption | with_reducible refine ah.alloc ?_ _ | with_reducible refine ah.call ?_ bW)); obtain ⟨⟨s0, s9⟩, tg, tl⟩ := id ly; (try ((refine k5 (p := ah w2 (w.heap.size + 1 + 1 + 1) (.int .u64 0) (.int .u64 0)) ?_ ?_); (repeat first | with_reducible assumption | with_reducible refine ah.alloc ?_ _ | with_reducible refine ah.drew ?_ | with_reducible refine ah.call ?_ bW | with_reducible refine ah.call ?_ bC); intro q9; obtain ⟨⟨T3, UN⟩, VO, Wh⟩ := id q9; have ZM := ah.lt q9; have aaT := ih (ah.lt q9); have aao := ij (ah.lt q9))); (try ((refine k5 (p := ah w2 (aO.heap.size) (.int .u64 0) (.int .u64 0)) ?_ ?_); (repeat first | focus ((with_reducible refine ah.new ?_); simp; done) | with_reducible refine ah.alloc ?_ _ | with_reducible refine ah.drew ?_ | with_reducible refine ah.call ?_ bW | with_reducible refine ah.call ?_ bC); intro ra; obtain ⟨⟨T4, UO⟩, VP, Wi⟩ := id ra; have ZN := ah.lt ra; have aaU := ih (ah.lt ra); have aap := ij (ah.lt ra))); have nv := Below.size bW; (try simp at nv); have xd : ¬ w2.heap.size = w.heap.size := (by omega); have zM : ¬ w2.heap.size = w.heap.size + 1 := (by omega); have Dt : ¬ w2.heap.size = w.heap.size + 1 + 1 := (by omega); have wv : ¬ w.heap.size = w2.heap.size := (by omega); have yu : ¬ w.heap.size + 1 = w2.heap.size := (by omega); have BX : ¬ w.heap.size + 1 + 1 = w2.heap.size := (by omega); have w7 : w.heap.size < w2.heap.size := (by omega); have zF : w.heap.size + 1 < w2.heap.size := (by omega); have Dh : w.heap.size + 1 + 1 < w2.heap.size := (by omega)))
        | (go_at_call 278; ((with_reducible refine (Oj _ _ _ _ _ _ _ oh y7).mono ?_); rintro e w3 ⟨ph, pl, rfl, hp, cV⟩; have lz : ah w3 (w.heap.size) (.int .i64 h1) (.int .u64 l1) := (by (repeat first | with_reducible assumption | with_reducible refine ah.alloc ?_ _ | with_reducible refine ah.call ?_ cV)); obtain ⟨⟨wj, wu⟩, wA, wF⟩ := id lz; have rb : ah w3 (w.heap.size + 1) (.int .i64 h2) (.int .u64 l2) := (by (repeat first | with_reducible assumption | with_reducible refine ah.alloc ?_ _ | with_reducible refine ah.call ?_ cV)); obtain ⟨⟨BI, BS⟩, B9, Cj⟩ := id rb; have vH : ah w3 (w.heap.size + 1 + 1) (.int .i64 0) (.int .u64 0) := (by (repeat first | with_reducible assumption | with_reducible refine ah.alloc ?_ _ | with_reducible refine ah.call ?_ cV)); obtain ⟨⟨Fz, FI⟩, FY, F8⟩ := id vH; (try ((refine k5 (p := ah w3 (w.heap.size + 1 + 1 + 1) (.int .u64 0) (.int .u64 0)) ?_ ?_); (repeat first | with_reducible assumption | with_reducible refine ah.alloc ?_ _ | with_reducible refine ah.drew ?_ | with_reducible refine ah.call ?_ cV | with_reducible refine ah.call ?_ bW | with_reducible refine ah.call ?_ bC); intro rc; obtain ⟨⟨T6, UQ⟩, VR, Wk⟩ := id rc; have ZO := ah.lt rc; have aaV := ih (ah.lt rc); have aaq := ij (ah.lt rc))); (try ((refine k5 (p := ah w3 (aO.heap.size) (.int .u64 0) (.int .u64 0)) ?_ ?_); (repeat first | with_reducible assumption | with_reducible refine ah.alloc ?_ _ | with_reducible refine ah.drew ?_ | with_reducible refine ah.call ?_ cV | with_reducible refine ah.call ?_ bW | with_reducible refine ah.call ?_ bC); intro re; obtain ⟨⟨T7, UR⟩, VS, Wl⟩ := id re; have ZP := ah.lt re; have aaW := ih (ah.lt re); have aar := ij (ah.lt re))); (try ((refine k5 (p := ah w3 (w2.heap.size) (.int .u64 0) (.int .u64 0)) ?_ ?_); (repeat first | focus ((with_reducible refine ah.new ?_); simp; done) | with_reducible refine ah.alloc ?_ _ | with_reducible refine ah.drew ?_ | with_reducible refine ah.call ?_ cV | with_reducible refine ah.call ?_ bW | with_reducible refine ah.call ?_ bC); intro rf; obtain ⟨⟨T8, US⟩, VT, Wm⟩ := id rf; have ZQ := ah.lt rf; have aaX := ih (ah.lt rf); have aas := ij (ah.lt rf))); have r3 := Below.size cV; (try simp at r3); have zN : ¬ w3.heap.size = w.heap.size := (by omega); have Du : ¬ w3.heap.size = w.heap.size + 1 := (by omega); have H9 : ¬ w3.heap.size = w.heap.size + 1 + 1 := (by omega); have yv : ¬ w.heap.size = w3.heap.size := (by omega); have BZ : ¬ w.heap.size + 1 = w3.heap.size := (by omega); have FT : ¬ w.heap.size + 1 + 1 = w3.heap.size := (by omega); have zG : w.heap.size < w3.heap.size := (by omega); have Di : w.heap.size + 1 < w3.heap.size := (by omega); have HM : w.heap.size + 1 + 1 < w3.heap.size := (by omega))))
    all_goals
      go_wp2_with fail
      go_meet
      refine ⟨_, ph, pl, rfl, rfl, by omega, hp, ?_, ?_, ?_, ?_, ?_, ?_⟩
      · (repeat first | focus ((with_reducible refine ah.new ?_); simp; done) | with_reducible refine ah.put ?_ | focus ((with_reducible apply fg.of); with_reducible assumption))
      · (repeat first | with_reducible assumption | with_reducible refine ah.alloc ?_ _ | focus ((with_reducible refine ah.set ?_ _ ?_); rotate_left; omega))
      · (repeat first | with_reducible assumption | with_reducible refine ah.alloc ?_ _ | focus ((with_reducible refine ah.set ?_ _ ?_); rotate_left; omega))
      · (repeat first | with_reducible assumption | with_reducible refine ah.alloc ?_ _ | focus ((with_reducible refine ah.set ?_ _ ?_); rotate_left; omega))
      · first | (simp; done) | (simp; omega)
      · (repeat first | with_reducible exact Below.refl _ _ | with_reducible refine cT ?_ _ | focus ((with_reducible refine eG ?_ _ _ _ ?_); rotate_left; omega) | with_reducible refine Below.drew ?_ | with_reducible refine b0 ?_ cV | with_reducible refine b0 ?_ bW | with_reducible refine b0 ?_ bC)
  case rest =>
    obtain ⟨g, ph, pl, rfl, rfl, aw, hp, ⟨q1, q2⟩, ⟨b5, ew⟩, ⟨lj, zZ⟩, ⟨DT, DU⟩, a6, ab⟩ := hcut;have ail : ¬ g = w.heap.size := by omega
    have aim : ¬ g = w.heap.size + 1 := by omega
    have ain : ¬ g = w.heap.size + 1 + 1 := by omega
    obtain ⟨adf, adg⟩ := q1; obtain ⟨Ir, Is⟩ := q2; obtain ⟨aiu, aiv⟩ := b5; obtain ⟨aiw, aix⟩ := ew; obtain ⟨aiy, aiz⟩ := lj; obtain ⟨aiA, aiB⟩ := zZ; obtain ⟨adj, adk⟩ := DT; obtain ⟨adm, adn⟩ := DU;have tF : w.heap.size + 1 + 1 < wc.heap.size := by omega
    have ME := aet H1 b8;generalize fC : (n.natAbs : Int) * (m.natAbs : Int) = P at *;have rh := Lib.hid fC.symm;have lX := Lib.hid ME;clear fC ME
    by_cases au : kK P = true
    · rw [if_pos au] at hp
      go_wp2_with (go_at_call 280; ((with_reducible refine (aex _ H1 b8 rh hp).mono ?_); rintro e ff ⟨je, jf, rfl, aq, eU⟩; have Re : ah ff (w.heap.size + 1 + 1) (.int .i64 0) (.int .u64 0) := ah.call ⟨⟨adj, adk⟩, adm, adn⟩ eU; obtain ⟨⟨BC, d4⟩, f4, g4⟩ := id Re))
      refine bodyPost_ret (v := .tuple #[.agg #[.int .i64 je, .int .u64 jf], .bool (fits (n * m))]) (by simp only [results, Tryz.results246]; go_simp) rfl ⟨je, jf, rfl, aq, ?_⟩;refine eG (eG (b0 ab eU) _ _ _ (by omega)) _ _ _ (by omega)
    · have lJ : kK P = false := by simpa using au
      have hm := Lib.hid (lX.out lJ);clear au
      go_wp2
      refine bodyPost_ret (v := .tuple #[.agg #[.int .i64 0, .int .u64 0], .bool false]) (by simp only [results, Tryz.results246]; go_simp) rfl (vw hm.out ?_);refine eG (eG ab _ _ _ (by omega)) _ _ _ (by omega)
end Go.Proofs.YtpochbhajmbfdaaGreat
namespace Go.Proofs.YtpochbhajmbfdaaGreat
open Go.RowKit
theorem ae6 {n m : Int} (aG : -9223372036854775808 ≤ n) (h1 : n < 9223372036854775808) (jy : -9223372036854775808 ≤ m) (bA : m < 9223372036854775808) : fits (n * m) = true := by
  have a : n.natAbs ≤ 9223372036854775808 := by omega
  have b : m.natAbs ≤ 9223372036854775808 := by omega
  have c := Nat.mul_le_mul a b;rw [← Int.natAbs_mul] at c;unfold fits;rw [cB];omega
theorem Sw (n m : Int) (w : World) (aG : -9223372036854775808 ≤ n) (h1 : n < 9223372036854775808) (jy : -9223372036854775808 ≤ m) (bA : m < 9223372036854775808) :
    Calls aj 222 #[.int .i64 n, .int .i64 m] w (oY (n * m) w) := by
  have RO := Lib.hid (ae6 aG h1 jy bA)
  go_enter Tryz.func222, Tryz.ntmps222
  go_wp2_with fail
  refine (rj n _ aG h1).mono ?_;rintro e aO ⟨a1, b1, rfl, aF, bC⟩
  go_wp2_with fail
  refine (rj m _ jy bA).mono ?_;rintro e w2 ⟨a2, b2, rfl, hm, bW⟩
  go_wp2_with fail
  refine (R9 _ _ _ _ _ _ _ aF hm).mono ?_;rintro e w3 ⟨a3, ed, rfl, hp, cV⟩;rw [if_pos RO.out] at hp;have lz : ah w3 (w.heap.size) (.int .i64 0) (.int .u64 0) := (by (repeat first | focus ((with_reducible refine ah.new ?_); simp; done) | with_reducible refine ah.call ?_ cV | with_reducible refine ah.call ?_ bW | with_reducible refine ah.call ?_ bC)); obtain ⟨⟨wj, wu⟩, wA, wF⟩ := id lz; have mf := Below.size bC; (try simp at mf); have tL : ¬ aO.heap.size = w.heap.size := (by omega); have tc : ¬ w.heap.size = aO.heap.size := (by omega); have tI : w.heap.size < aO.heap.size := (by omega); have nv := Below.size bW; (try simp at nv); have xd : ¬ w2.heap.size = w.heap.size := (by omega); have wv : ¬ w.heap.size = w2.heap.size := (by omega); have w7 : w.heap.size < w2.heap.size := (by omega); have r3 := Below.size cV; (try simp at r3); have zN : ¬ w3.heap.size = w.heap.size := (by omega); have yv : ¬ w.heap.size = w3.heap.size := (by omega); have zG : w.heap.size < w3.heap.size := (by omega)
  go_wp2
  refine bodyPost_ret (v := .agg #[.int .i64 a3, .int .u64 ed]) (by simp only [results, Tryz.results222]; go_simp) rfl ⟨_, _, rfl, hp, ?_⟩;(repeat first | with_reducible exact Below.refl _ _ | with_reducible refine cT ?_ _ | focus ((with_reducible refine eG ?_ _ _ _ ?_); rotate_left; omega) | with_reducible refine b0 ?_ cV | with_reducible refine b0 ?_ bW | with_reducible refine b0 ?_ bC)
theorem SI (n : Int) (k : Nat) : ((n * 2 ^ k).natAbs : Int) = (n.natAbs : Int) * 2 ^ k := by
  rw [Int.natAbs_mul, Int.natAbs_pow, Int.natCast_mul];simp
theorem aep {n k : Int} {len : Nat} (h : p6 n.natAbs len) (aG : n ≠ 0) (af : 0 ≤ k) (ax : 128 - (len : Int) < k) : fits (n * 2 ^ k.toNat) = false := by
  have h1 := Z8 h (by omega) (show 128 < k.toNat + len by omega);have h2 := SI n k.toNat
  rw [show (n.natAbs : Int) * 2 ^ k.toNat = ((n.natAbs * 2 ^ k.toNat : Nat) : Int) by simp] at h2;unfold fits;rw [ll];omega
theorem aeq {n k : Int} {len : Nat} (h : p6 n.natAbs len) (aG : n ≠ 0) (af : 0 ≤ k) (ax : k ≤ 128 - (len : Int)) : k < 128 ∧ (n.natAbs : Int) * 2 ^ k.toNat < 340282366920938463463374607431768211456 := by
  have h1 := Z9 h (show k.toNat + len ≤ 128 by omega);rw [show (n.natAbs : Int) * 2 ^ k.toNat = ((n.natAbs * 2 ^ k.toNat : Nat) : Int) by simp];refine ⟨?_, by omega⟩;rcases h with h | h <;> omega
theorem aeu {h1 l1 n : Int} (k : Nat) (H1 : bt h1 l1 n) : (if decide (h1 < 0) = true then -((n.natAbs : Int) * 2 ^ k) else (n.natAbs : Int) * 2 ^ k) = n * 2 ^ k := by
  have bA := H1.neg;rcases pK n 0 with a | a
  · obtain ⟨x, rfl⟩ : ∃ x : Nat, n = -(x : Int) := ⟨n.natAbs, by omega⟩
    rw [if_pos (bB (bA.2 a)), Int.natAbs_neg, Int.natAbs_natCast, Int.neg_mul]
  · obtain ⟨x, rfl⟩ : ∃ x : Nat, n = (x : Int) := ⟨n.natAbs, by omega⟩
    rw [if_neg (by simp; omega), Int.natAbs_natCast]
theorem aew {h1 l1 n ph pl P : Int} {k : Nat} (w : World) (H1 : bt h1 l1 n) (e : Hid (P = (n.natAbs : Int) * 2 ^ k)) (hp : cJ ph pl P) :
    Calls aj 280 #[.agg #[.int .u64 ph, .int .u64 pl], .bool (decide (h1 < 0))] w (lZ (n * 2 ^ k) w) := by
  rw [← aeu k H1, ← e.out];exact Qu ph pl P _ w hp
theorem Sp (k : Int) (w : World) (af : 0 ≤ k) :
    Calls aj 271 #[.agg #[.int .i64 0, .int .u64 0], .int .i64 k] w (gL (.tuple #[.agg #[.int .i64 0, .int .u64 0], .bool true]) w) := by
  have he : fI 0 0 0 0 = true := rfl
  go_enter Tryz.func271, Tryz.ntmps271
  go_wp2
  refine bodyPost_ret (v := .tuple #[.agg #[.int .i64 0, .int .u64 0], .bool true]) (by simp only [results, Tryz.results271]; go_simp) rfl ⟨rfl, ?_⟩;(repeat first | with_reducible exact Below.refl _ _ | with_reducible refine cT ?_ _)
theorem So (h1 l1 n k : Int) (w : World) (H1 : bt h1 l1 n) (aF : n ≠ 0) (af : 0 ≤ k) (wT : k < 9223372036854775808) :
    Calls aj 271 #[.agg #[.int .i64 h1, .int .u64 l1], .int .i64 k] w (lZ (n * 2 ^ k.toNat) w) := by
  have he : fI h1 l1 0 0 = false := by rw [H1.fI oq]; exact bR aF
  go_enter Tryz.func271, Tryz.ntmps271
  go_wp2_with (go_at_call 279; refine (Ao h1 l1 n _ H1).mono ?_; rintro e aO ⟨sh, sl, rfl, hs, bC⟩; have fW : ah aO (w.heap.size) (.int .i64 h1) (.int .u64 l1) := (by (repeat first | focus ((with_reducible refine ah.new ?_); simp; done) | with_reducible refine ah.alloc ?_ _ | with_reducible refine ah.call ?_ bC)); obtain ⟨⟨lD, lE⟩, lG, lH⟩ := id fW; have jk : ah aO (w.heap.size + 1) (.int .i64 0) (.int .u64 0) := (by (repeat first | focus ((with_reducible refine ah.new ?_); simp; done) | with_reducible refine ah.call ?_ bC)); obtain ⟨⟨o6, pb⟩, pf, pi⟩ := id jk; have mf := Below.size bC; (try simp at mf); have tL : ¬ aO.heap.size = w.heap.size := (by omega); have vf : ¬ aO.heap.size = w.heap.size + 1 := (by omega); have tc : ¬ w.heap.size = aO.heap.size := (by omega); have uG : ¬ w.heap.size + 1 = aO.heap.size := (by omega); have tI : w.heap.size < aO.heap.size := (by omega); have vc : w.heap.size + 1 < aO.heap.size := (by omega))
  refine (Z5 _ _ _ _ hs).mono ?_;rintro e w2 ⟨len, rfl, an, bW⟩;have iQ : ah w2 (w.heap.size) (.int .i64 h1) (.int .u64 l1) := (by (repeat first | with_reducible assumption | with_reducible refine ah.alloc ?_ _ | with_reducible refine ah.call ?_ bW)); obtain ⟨⟨o7, pc⟩, pg, pj⟩ := id iQ; have lx : ah w2 (w.heap.size + 1) (.int .i64 0) (.int .u64 0) := (by (repeat first | with_reducible assumption | with_reducible refine ah.alloc ?_ _ | with_reducible refine ah.call ?_ bW)); obtain ⟨⟨sZ, s8⟩, tf, tk⟩ := id lx; have ly : ah w2 (aO.heap.size) (.int .u64 sh) (.int .u64 sl) := (by (repeat first | focus ((with_reducible refine ah.new ?_); simp; done) | with_reducible refine ah.call ?_ bW)); obtain ⟨⟨s0, s9⟩, tg, tl⟩ := id ly; have nv := Below.size bW; (try simp at nv); have xd : ¬ w2.heap.size = w.heap.size := (by omega); have zM : ¬ w2.heap.size = w.heap.size + 1 := (by omega); have wv : ¬ w.heap.size = w2.heap.size := (by omega); have yu : ¬ w.heap.size + 1 = w2.heap.size := (by omega); have w7 : w.heap.size < w2.heap.size := (by omega); have zF : w.heap.size + 1 < w2.heap.size := (by omega);rw [kw] at an;have mE := Z7 an
  by_cases ax : 128 - (len : Int) < k
  · have lX := Lib.hid (aep an aF af ax)
    go_wp2
    refine bodyPost_ret (v := .tuple #[.agg #[.int .i64 0, .int .u64 0], .bool false]) (by simp only [results, Tryz.results271]; go_simp) rfl (vw lX.out ?_);(repeat first | with_reducible exact Below.refl _ _ | with_reducible refine cT ?_ _ | focus ((with_reducible refine eG ?_ _ _ _ ?_); rotate_left; omega) | with_reducible refine b0 ?_ bW | with_reducible refine b0 ?_ bC)
  · obtain ⟨XR, hu⟩ := aeq an aF af (by omega)
    have gB : k ≤ 128 - (len : Int) := by omega
    have A3 := Lib.hid hu;clear hu ax aF;have Yu : Hid (∀ w, Calls aj 292 #[.agg #[.int .u64 sh, .int .u64 sl], .int .u64 k] w (aT ((n.natAbs : Int) * 2 ^ k.toNat) w)) := fun w => Qq _ _ _ _ w hs af XR A3.out;generalize kj : n * 2 ^ k.toNat = N at *;have mU := Lib.hid kj;generalize fC : (n.natAbs : Int) * 2 ^ k.toNat = P at *;have rh := Lib.hid fC.symm;clear kj fC
    have Yt : Hid (∀ (ph pl : Int) w, cJ ph pl P → Calls aj 280 #[.agg #[.int .u64 ph, .int .u64 pl], .bool (decide (h1 < 0))] w (lZ N w)) := fun ph pl w hp => by
      rw [← mU.out];exact aew w H1 rh hp
    have ahV : aO.heap.size < w2.heap.size := by omega
    have CT : IntKind.u64.wrap k = k := by rw [IntKind.wrap_u64]; omega
    go_wp2_with fail
    go_region_held3 (fun w' => (w'.cell? ⟨w.heap.size, 0, none⟩ = some (.int .i64 h1) ∧ w'.cell? ⟨w.heap.size, 1, none⟩ = some (.int .u64 l1)) ∧ (w'.cell? ⟨aO.heap.size, 0, none⟩ = some (.int .u64 sh) ∧ w'.cell? ⟨aO.heap.size, 1, none⟩ = some (.int .u64 sl))) (go_keep)
      (first
        | (go_at_call 292; ((with_reducible refine (Yu.out _).mono ?_); rintro e w3 ⟨IY, IZ, rfl, aE, cV⟩; have lz : ah w3 (w.heap.size) (.int .i64 h1) (.int .u64 l1) := (by (repeat first | with_reducible assumption | with_reducible refine ah.drew ?_ | with_reducible refine ah.call ?_ cV)); obtain ⟨⟨wj, wu⟩, wA, wF⟩ := id lz; have rb : ah w3 (w.heap.size + 1) (.int .i64 0) (.int .u64 0) := (by (repeat first | with_reducible assumption | with_reducible refine ah.drew ?_ | with_reducible refine ah.call ?_ cV)); obtain ⟨⟨BI, BS⟩, B9, Cj⟩ := id rb; have vH : ah w3 (aO.heap.size) (.int .u64 sh) (.int .u64 sl) := (by (repeat first | with_reducible assumption | with_reducible refine ah.drew ?_ | with_reducible refine ah.call ?_ cV)); obtain ⟨⟨Fz, FI⟩, FY, F8⟩ := id vH; have r3 := Below.size cV; (try simp at r3); have zN : ¬ w3.heap.size = w.heap.size := (by omega); have Du : ¬ w3.heap.size = w.heap.size + 1 := (by omega); have yv : ¬ w.heap.size = w3.heap.size := (by omega); have BZ : ¬ w.heap.size + 1 = w3.heap.size := (by omega); have zG : w.heap.size < w3.heap.size := (by omega); have Di : w.heap.size + 1 < w3.heap.size := (by omega)))
        | (go_at_call 280; ((with_reducible refine (Yt.out _ _ _ aE).mono ?_); rintro e ff ⟨je, jf, rfl, aq, eU⟩; have AN : ah ff (w.heap.size) (.int .i64 h1) (.int .u64 l1) := (by (repeat first | with_reducible assumption | with_reducible refine ah.call ?_ eU)); obtain ⟨⟨Kz, KX⟩, Ls, LH⟩ := id AN; have AO : ah ff (w.heap.size + 1) (.int .i64 0) (.int .u64 0) := (by (repeat first | with_reducible assumption | with_reducible refine ah.call ?_ eU)); obtain ⟨⟨KA, KY⟩, Lt, LI⟩ := id AO; have AP : ah ff (aO.heap.size) (.int .u64 sh) (.int .u64 sl) := (by (repeat first | with_reducible assumption | with_reducible refine ah.call ?_ eU)); obtain ⟨⟨KB, KZ⟩, Lu, LJ⟩ := id AP; have Hq := Below.size eU; (try simp at Hq); have Ot : ¬ ff.heap.size = w.heap.size := (by omega); have Ou : ¬ ff.heap.size = w.heap.size + 1 := (by omega); have Lk : ¬ w.heap.size = ff.heap.size := (by omega); have Ll : ¬ w.heap.size + 1 = ff.heap.size := (by omega); have NU : w.heap.size < ff.heap.size := (by omega); have NV : w.heap.size + 1 < ff.heap.size := (by omega))))
    all_goals
      go_wp2
      refine bodyPost_ret (v := .tuple #[.agg #[.int .i64 je, .int .u64 jf], .bool (fits N)]) (by simp only [results, Tryz.results271]; go_simp) rfl ⟨je, jf, rfl, aq, ?_⟩;(repeat first | with_reducible exact Below.refl _ _ | with_reducible refine cT ?_ _ | focus ((with_reducible refine eG ?_ _ _ _ ?_); rotate_left; omega) | with_reducible refine Below.drew ?_ | with_reducible refine b0 ?_ eU | with_reducible refine b0 ?_ cV | with_reducible refine b0 ?_ bW | with_reducible refine b0 ?_ bC)
end Go.Proofs.YtpochbhajmbfdaaGreat
namespace Go.Proofs.YtpochbhajmbfdaaGreat
open Go.RowKit
theorem Sn (h1 l1 n k : Int) (w : World) (H1 : bt h1 l1 n) (af : 0 ≤ k) (wT : k < 9223372036854775808) :
    Calls aj 271 #[.agg #[.int .i64 h1, .int .u64 l1], .int .i64 k] w (lZ (n * 2 ^ k.toNat) w) := by
  by_cases e : n = 0
  · subst e
    obtain ⟨rfl, rfl⟩ := H1.inj oq;rw [Int.zero_mul];exact (Sp k w af).mono fun e w' ⟨he, ab⟩ => ⟨0, 0, he, by show bt 0 0 0; exact oq, ab⟩
  · exact So h1 l1 n k w H1 e af wT
end Go.Proofs.YtpochbhajmbfdaaGreat
