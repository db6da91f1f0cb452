/-
  My own texts, without what this claim does not need. My own text.
-/
import Derived.Deep.RegionHeld3
import Derived.StillTail
import Derived.Deep.QuietTactic
import Derived.OwnWalk
import Derived.Laws.OwnMore
import Derived.Maps.AppendAt
import Derived.IntWalk
import Derived.Shelf.Small.Bits
import Derived.Shelf.Strconv.Itoa0
import Derived.Shelf.Bits.Mul64
import Derived.Test.YtpochbhajmbfdaaGreatProg
import Derived.WalkKit
import Derived.Lib.ItoaNum
import Derived.Deep.DeepCutAuto
import Derived.Test.YtpochbhajmbfdaaGreatSRunsK5
set_option maxRecDepth 100000
set_option maxHeartbeats 64000000
set_option linter.unusedVariables false
set_option linter.unusedSimpArgs false
set_option linter.unusedSectionVars false
open Go.Proofs.Tryz renaming prog → aj
namespace Go.Proofs.YtpochbhajmbfdaaGreat
open Go.RowKit
def cQ (k : Nat) (cs : List AC) : Mem := bS cg k cs
theorem hT {k j : Nat} {cs ds : List AC} (h : cQ k cs j = some ds) : j = k ∧ ds = cs := by
 unfold cQ at h
 by_cases e : j = k
 ·subst e; rw [cy] at h; exact ⟨rfl, (mY h).symm⟩
 ·rw [ca _ _ e] at h; cases h
theorem fV {k j : Nat} {r q : bQ} (h : bL k r j = some q) : j = k ∧ q = r := by
 unfold bL at h
 by_cases e : j = k
 ·subst e; rw [cy] at h; exact ⟨rfl, (mY h).symm⟩
 ·rw [ca _ _ e] at h; cases h
theorem vT {α : Type} (f : Nat → Option α) (k : Nat) (x : α) : b5 (bS (fun _ => none) k x) f = bS f k x := by
 funext j
 by_cases e : j = k
 ·subst e; rw [cy]; exact gv (cy _ _ _)
 ·rw [ca _ _ e]; exact gw (ca _ _ e)
theorem PB {α : Type} (f : Nat → Option α) : b5 (fun _ => none) f = f := by funext j; exact gw rfl
def x1 (n : Nat) (args : List ai) (m : Mem) : aC := ⟨n, fun t => args[t]?, m⟩
def tW (P : Program) (fn : Func) (m0 : Mem) (R0 : aJ) (Post : ai → Mem → aJ → Prop) (R : aJ) (s : aC) : Prop :=
 ∃ xs r aH aB, fn.results.toList.map (iS P s) = xs.map some ∧ (packed xs).br r ∧ Post r aH aB ∧ (∀ k cs, aH k = some cs → s.mem k = some cs) ∧ bH aB R ∧ (∀ j, r.owns j → ∃ cs, aH j = some cs) ∧ (∀ k cs x j, aH k = some cs → x ∈ cs → x.owns j → ∃ ar, aH j = some ar) ∧ (∀ k cs, m0 k = some cs → ∃ ar, aH k = some ar) ∧ ∀ i r, R0 i = some r → ∃ a8, aB i = some a8
def jZ (P : Program) (fn : Func) (m0 : Mem) (R0 : aJ) (Post : ai → Mem → aJ → Prop) : Exit → aJ → aC → Prop
 | .normal, R, s | .ret, R, s => tW P fn m0 R0 Post R s
 | _, _, _ => False
section
variable {P : Program}
theorem dy {f : FuncId} {fn : Func} {c : Code} {args : List ai} {m0 : Mem} {R0 : aJ} {Post : ai → Mem → aJ → Prop} (au : P.funcs[f]? = some fn) (ab : fn.body = some c) (aE : args.length ≤ fn.ntmps) (xd : ∀ k cs, m0 k = some cs → fn.ntmps ≤ k)
  (h : fJ P c (jZ P fn m0 R0 Post) R0 (x1 fn.ntmps args m0)) : dt P f args m0 R0 Post := by
 refine ⟨fun U ad W vs cS ew dT => ?_⟩;have ao := dT.1;refine calls_of_wp au ab ?_;have ok : (x1 fn.ntmps args m0).cV := ⟨fun t av j aD ae => ew av (dJ aD) j ae, fun k cs x j af aa ae => cS.fT k cs x j af aa ae⟩
 let bp : ff := ⟨W, fun b => b < W.heap.size ∧ ¬ eu ad m0 R0 b, fun _ h => h.1, fun k => match m0 k with | some _ => some (ad k) | none => none, []⟩
 have bj : ∀ b, eu ad m0 R0 b → b < W.heap.size := by
  rintro b (⟨k, cs, af, rfl⟩ | ⟨i, r, hi, aw⟩)
  ·obtain ⟨vs, ty, h1, _⟩ := cS.dG k cs af;exact (ln.1 h1).1
  ·exact (cS.rows i r hi).1.lt aw
 have XE : ∀ b, U b → ¬ eu ad m0 R0 b := by
  rintro b hu (⟨k, cs, af, rfl⟩ | ⟨i, r, hi, aw⟩)
  ·obtain ⟨_, _, _, _, h⟩ := cS.dG k cs af; exact h hu
  ·exact ((cS.rows i r hi).2.2 b aw).1 hu
 have G7 : uS bp (x1 fn.ntmps args m0) ad := fun k b af => by
  cases hm : m0 k with
  | none => simp only [bp, hm] at af; cases af
  | some cs => simp only [bp, hm, ib] at af; exact ⟨xd k cs hm, af⟩
 have jW : ∀ b, U b → b < W.heap.size → (x1 fn.ntmps args m0).free (fun b => U b ∨ W.heap.size ≤ b) ad b ∧ W.heap[b]? = W.heap[b]? := fun b hu _ => ⟨⟨.inl hu, fun k cs af e => XE b hu (.inl ⟨k, cs, af, e⟩)⟩, rfl⟩
 have aA : eL bp (fun b => U b ∨ W.heap.size ≤ b ∨ eu ad m0 R0 b) R0 (x1 fn.ntmps args m0) { tmps := vs.toArray ++ Array.replicate (fn.ntmps - vs.toArray.size) undef, defers := [] } W (fun b => U b ∨ W.heap.size ≤ b) ad := by
  refine ⟨fun b ab => .inr (.inl ab), fun b ab => ab.elim .inl fun h => .inr (.inl h), ?_, fun k cs af au => au.2 (.inl ⟨k, cs, af, rfl⟩), ⟨rfl, rfl, rfl, dU _, fun _ _ => rfl⟩, fun i r hi => ?_, cS.apart, fun i r g hi aw => ⟨fun au => au.2 (.inr ⟨i, r, hi, aw⟩), .inr (.inr (.inr ⟨i, r, hi, aw⟩))⟩, G7⟩
  ·refine ⟨rfl, by simp [x1]; omega, fun t av aD => ?_, fun k cs af => ?_, cS.inj, kh.refl _, fun b ab => .inr ab, xb _ _ _⟩
   ·have Dc : t < vs.length := by rw [← ao]; exact (bV.1 aD).1
    refine ⟨vs[t], by simp [Array.getElem?_append, Dc], ?_⟩;exact (dT.2 t av _ aD (cl Dc)).map jW fun _ _ => rfl
   ·obtain ⟨us, ty, h1, h2, aq⟩ := cS.dG k cs af;exact ⟨us, ty, h1, h2.map jW fun _ _ _ _ => rfl, fun au => au.2 k cs af rfl⟩
  ·obtain ⟨lK, ak, aw⟩ := cS.rows i r hi;refine ⟨lK.kept ak (fun _ _ => rfl) (dU _) jW, ak, fun g q => ⟨?_, fun k cs af => (aw g q).2 k cs af⟩⟩;rintro (hu | hu)
   ·exact (aw g q).1 hu
   ·have := bj g (.inr ⟨i, r, hi, q⟩); omega
 refine wp_mono (h ok bp _ _ W ⟨_, ad, aA⟩).top ?_;rintro e a' w' ⟨eT, s', dN, ⟨eA, bf, cE⟩, al⟩
 have fin : tW P fn m0 R0 Post eT s' → a'.defers = [] ∧ ∃ v, (results fn a'.tmps).run P w' = .ok v w' ∧ ∃ aW r aH aB bf cM, Ending.returned v = .returned aW ∧ Post r aH aB ∧ fk cM bf w' aH aB ∧ di cM bf w' r aW ∧ (∀ j, r.owns j → ∃ cs, aH j = some cs) ∧
   (∀ k cs, m0 k = some cs → bf k = ad k ∧ ∃ ar, aH k = some ar) ∧ (∀ i r, R0 i = some r → ∃ a8, aB i = some a8) ∧
   (∀ b, cM b → U b ∨ W.heap.size ≤ b ∨ eu ad m0 R0 b) ∧ (∀ b, eu bf aH aB b → eu ad m0 R0 b ∨ W.heap.size ≤ b) ∧ kh (HB ad W m0 R0) w' := by
  rintro ⟨xs, r, aH, aB, h1, h2, aq, aK, cO, ek, np, pR, jc⟩;obtain ⟨v, q1, q2⟩ := Qx cE.rel h1;refine ⟨cE.rel.qb, v, q1, v, r, aH, aB, bf, s'.free eA bf, rfl, aq, cE.part aK cO np, h2 _ _ _ _ q2, ek, fun k cs af => ⟨(cE.kp k (ad k) (by simp [bp, af])).2, pR k cs af⟩, jc, fun b ab => cE.sub b ab.1, ?_, ⟨cE.below.os, cE.below.tape, cE.below.output, cE.below.size, fun b ab => cE.below.block b ab⟩⟩;rintro b (⟨k, cs, af, rfl⟩ | ⟨i, q, hi, aw⟩)
  ·have HA := cE.o3 k cs (aK k cs af);rcases jn (bf k) W.heap.size with nt | nt
   ·exact .inl (Classical.byContradiction fun aE => HA ⟨nt, aE⟩)
   ·exact .inr nt
  ·have HA := (cE.hot i q b (cO i q hi) aw).1;rcases jn b W.heap.size with nt | nt
   ·exact .inl (Classical.byContradiction fun aE => HA ⟨nt, aE⟩)
   ·exact .inr nt
 cases e with
 | normal => exact fin al
 | ret => exact fin al
 | _ => exact al.elim
end
def AC.bd (bP : Nat → Nat) : AC → AC
 | .own k o => .own (bP k) o
 | .c v => .c v
 | .p R => .p R
def bK.bd (bP : Nat → Nat) : bK → bK
 | .one x => .one (x.bd bP)
 | .agg xs => .agg (xs.map (AC.bd bP))
def ai.bd (bP : Nat → Nat) : ai → ai
 | .w x => .w (x.bd bP)
 | .da xs => .da (xs.map (bK.bd bP))
def Mem.bd (bP : Nat → Nat) (m : Mem) : Mem := fun j => (m (bP j)).map fun cs => cs.map (AC.bd bP)
def aJ.bd (cu : Nat → Nat) (R : aJ) : aJ := fun j => R (cu j)
section
variable {P : Program} {U : Nat → Prop} {ad : Nat → Nat} {W : World} {bP cu iX : Nat → Nat}
theorem gI.bd {x : AC} {v : Value} : gI U ad W (x.bd bP) v ↔ gI U (fun k => ad (bP k)) W x v := by cases x <;> exact Iff.rfl
theorem bZ.bd {xs : List AC} {vs : List Value} : bZ U ad W (xs.map (AC.bd bP)) vs ↔ bZ U (fun k => ad (bP k)) W xs vs := by
 constructor
 ·rintro ⟨h1, h2⟩;refine ⟨by simpa using h1, fun i x v aa hv => gI.bd.1 (h2 i (x.bd bP) v (by rw [eJ, aa]; rfl) hv)⟩
 ·rintro ⟨h1, h2⟩;refine ⟨by simpa using h1, fun i x v aa hv => ?_⟩;rw [eJ] at aa;cases ag : xs[i]? with
  | none => rw [ag] at aa; cases aa
  | some y => rw [ag] at aa; cases aa; exact gI.bd.2 (h2 i y v ag hv)
theorem gS.bd {x : bK} {v : Value} : gS U ad W (x.bd bP) v ↔ gS U (fun k => ad (bP k)) W x v := by
 cases x with
 | one x => exact gI.bd
 | agg xs =>
  constructor
  ·rintro ⟨vs, e, h⟩; exact ⟨vs, e, bZ.bd.1 h⟩
  ·rintro ⟨vs, e, h⟩; exact ⟨vs, e, bZ.bd.2 h⟩
theorem di.bd {x : ai} {v : Value} : di U ad W (x.bd bP) v ↔ di U (fun k => ad (bP k)) W x v := by
 cases x with
 | w x => exact gS.bd
 | da xs =>
  constructor
  ·rintro ⟨vs, e, ao, h⟩;exact ⟨vs, e, by simpa using ao, fun i x v aa hv => gS.bd.1 (h i (x.bd bP) v (by rw [eJ, aa]; rfl) hv)⟩
  ·rintro ⟨vs, e, ao, h⟩;refine ⟨vs, e, by simpa using ao, fun i x v aa hv => ?_⟩;rw [eJ] at aa;cases ag : xs[i]? with
   | none => rw [ag] at aa; cases aa
   | some y => rw [ag] at aa; cases aa; exact gS.bd.2 (h i y v ag hv)
theorem AC.EB {x : AC} {j : Nat} (h : (x.bd bP).owns j) : ∃ i, x.owns i ∧ j = bP i := by
 cases x with
 | own k o => exact ⟨k, rfl, h⟩
 | c v => cases h
 | p R => cases h
theorem AC.Eh {x : AC} {j : Nat} (h : x.owns j) : (x.bd bP).owns (bP j) := by
 cases x with
 | own k o => cases h; rfl
 | c v => cases h
 | p R => cases h
theorem bK.Le (x : bK) : (x.bd bP).cells = x.cells.map (AC.bd bP) := by cases x <;> rfl
theorem ai.EB {x : ai} {j : Nat} (h : (x.bd bP).owns j) : ∃ i, x.owns i ∧ j = bP i := by
 have key : ∀ y : bK, (y.bd bP).owns j → ∃ i, y.owns i ∧ j = bP i := by
  rintro y ⟨z, aZ, ae⟩;rw [bK.Le] at aZ;obtain ⟨u, hu, rfl⟩ := ix.1 aZ;obtain ⟨i, h1, h2⟩ := AC.EB ae;exact ⟨i, ⟨u, hu, h1⟩, h2⟩
 cases x with
 | w x => exact key x h
 | da xs =>
  obtain ⟨y, ag, ae⟩ := h;obtain ⟨u, hu, rfl⟩ := ix.1 ag;obtain ⟨i, h1, h2⟩ := key u ae;exact ⟨i, ⟨u, hu, h1⟩, h2⟩
theorem ai.Eh {x : ai} {j : Nat} (h : x.owns j) : (x.bd bP).owns (bP j) := by
 have key : ∀ y : bK, y.owns j → (y.bd bP).owns (bP j) := by
  rintro y ⟨z, aZ, ae⟩;exact ⟨z.bd bP, by rw [bK.Le]; exact ix.2 ⟨z, aZ, rfl⟩, AC.Eh ae⟩
 cases x with
 | w x => exact key x h
 | da xs =>
  obtain ⟨y, ag, ae⟩ := h;exact ⟨y.bd bP, ix.2 ⟨y, ag, rfl⟩, key y ae⟩
theorem Mem.ry {m : Mem} {j : Nat} {cs : List AC} (h : Mem.bd bP m j = some cs) : ∃ ds, m (bP j) = some ds ∧ cs = ds.map (AC.bd bP) := by
 unfold Mem.bd at h;cases hm : m (bP j) with
 | none => rw [hm] at h; cases h
 | some ds => rw [hm] at h; exact ⟨ds, rfl, (mY h).symm⟩
theorem Mem.rv (fM : ∀ j, bP (bP j) = j) {m : Mem} {k : Nat} {cs : List AC} (h : m k = some cs) : Mem.bd bP m (bP k) = some (cs.map (AC.bd bP)) := by
 unfold Mem.bd; rw [fM, h]; rfl
theorem eu.bd (fM : ∀ j, bP (bP j) = j) (gM : ∀ j, cu (iX j) = j) {m : Mem} {R : aJ} {b : Nat} : eu ad (m.bd bP) (R.bd cu) b ↔ eu (fun k => ad (bP k)) m R b := by
 constructor
 ·rintro (⟨k, cs, af, e⟩ | ⟨i, r, hi, aw⟩)
  ·obtain ⟨ds, h1, _⟩ := Mem.ry af;exact .inl ⟨bP k, ds, h1, by simp only [fM]; exact e⟩
  ·exact .inr ⟨cu i, r, hi, aw⟩
 ·rintro (⟨k, cs, af, e⟩ | ⟨i, r, hi, aw⟩)
  ·exact .inl ⟨bP k, _, Mem.rv fM af, e⟩
  ·exact .inr ⟨iX i, r, by unfold aJ.bd; rw [gM]; exact hi, aw⟩
theorem fk.bd (fM : ∀ j, bP (bP j) = j) (gM : ∀ j, cu (iX j) = j) (vF : ∀ j, iX (cu j) = j) {m : Mem} {R : aJ} : fk U ad W (m.bd bP) (R.bd cu) ↔ fk U (fun k => ad (bP k)) W m R := by
 have NG : ∀ {a b : Nat}, bP a = bP b → a = b := fun {a b} h => by rw [← fM a, h, fM]
 have Zx : ∀ {a b : Nat}, cu a = cu b → a = b := fun {a b} h => by rw [← vF a, h, vF]
 have Zy : ∀ {a b : Nat}, iX a = iX b → a = b := fun {a b} h => by rw [← gM a, h, gM]
 constructor
 ·intro h;refine ⟨fun k cs af => ?_, fun k cs x j af aa ae => ?_, fun k k' cs ar af e0 e => ?_, fun i r hi => ?_, fun i j r q hi ae gL g aw => h.apart (iX i) (iX j) r q (by unfold aJ.bd; rw [gM]; exact hi) (by unfold aJ.bd; rw [gM]; exact ae) (fun e => gL (Zy e)) g aw⟩
  ·obtain ⟨vs, ty, h1, h2, aq⟩ := h.dG (bP k) _ (Mem.rv fM af);exact ⟨vs, ty, h1, bZ.bd.1 h2, aq⟩
  ·obtain ⟨ar, h1⟩ := h.fT (bP k) _ (x.bd bP) (bP j) (Mem.rv fM af) (ix.2 ⟨x, aa, rfl⟩) (AC.Eh ae);obtain ⟨ds, h2, _⟩ := Mem.ry h1;rw [fM] at h2;exact ⟨ds, h2⟩
  ·exact NG (h.inj (bP k) (bP k') _ _ (Mem.rv fM af) (Mem.rv fM e0) e)
  ·obtain ⟨h1, aq, aK⟩ := h.rows (iX i) r (by unfold aJ.bd; rw [gM]; exact hi);exact ⟨h1.kept aq (fun _ _ => rfl) (dU _) (fun b ab _ => ⟨ab, rfl⟩), aq, fun g aw => ⟨(aK g aw).1, fun k cs af => (aK g aw).2 (bP k) _ (Mem.rv fM af)⟩⟩
 ·intro h;refine ⟨fun k cs af => ?_, fun k cs x j af aa ae => ?_, fun k k' cs ar af e0 e => ?_, fun i r hi => ?_, fun i j r q hi ae gL g aw => h.apart (cu i) (cu j) r q hi ae (fun e => gL (Zx e)) g aw⟩
  ·obtain ⟨ds, aI, rfl⟩ := Mem.ry af;obtain ⟨vs, ty, h1, h2, aq⟩ := h.dG (bP k) ds aI;simp only [fM] at h1 aq;exact ⟨vs, ty, h1, bZ.bd.2 h2, aq⟩
  ·obtain ⟨ds, aI, rfl⟩ := Mem.ry af;obtain ⟨y, ag, rfl⟩ := ix.1 aa;obtain ⟨i, h1, rfl⟩ := AC.EB ae;obtain ⟨ar, h2⟩ := h.fT (bP k) ds y i aI ag h1;exact ⟨_, Mem.rv fM h2⟩
  ·obtain ⟨ds, aI, _⟩ := Mem.ry af;obtain ⟨VR, y5, _⟩ := Mem.ry e0;exact NG (h.inj (bP k) (bP k') _ _ aI y5 (by simp only [fM]; exact e))
  ·obtain ⟨h1, aq, aK⟩ := h.rows (cu i) r hi;refine ⟨h1.kept aq (fun _ _ => rfl) (dU _) (fun b ab _ => ⟨ab, rfl⟩), aq, fun g aw => ⟨(aK g aw).1, fun k cs af => ?_⟩⟩;obtain ⟨ds, aI, _⟩ := Mem.ry af;have := (aK g aw).2 (bP k) ds aI;simpa only [fM] using this
theorem dt.bd (fM : ∀ j, bP (bP j) = j) (gM : ∀ j, cu (iX j) = j) (vF : ∀ j, iX (cu j) = j) {f : FuncId} {args : List ai} {m0 : Mem} {R0 : aJ} {Post : ai → Mem → aJ → Prop} (h : dt P f args m0 R0 Post) :
  dt P f (args.map (ai.bd bP)) (m0.bd bP) (R0.bd cu) fun r aH aB => ∃ c3 m1 bo, Post c3 m1 bo ∧ r = c3.bd bP ∧ aH = Mem.bd bP m1 ∧ aB = aJ.bd cu bo := by
 refine ⟨fun U ad W vs cS ew dT => ?_⟩;have Zb : ko U (fun k => ad (bP k)) W args vs := ⟨by simpa using dT.1, fun i x v aa hv => di.bd.1 (dT.2 i (x.bd bP) v (by rw [eJ, aa]; rfl) hv)⟩;refine (h.call U (fun k => ad (bP k)) W vs ((fk.bd fM gM vF).1 cS) (fun x aa j ae => ?_) Zb).mono ?_
 ·obtain ⟨cs, h1⟩ := ew (x.bd bP) (ix.2 ⟨x, aa, rfl⟩) (bP j) (ai.Eh ae);obtain ⟨ds, h2, _⟩ := Mem.ry h1;rw [fM] at h2;exact ⟨ds, h2⟩
 ·rintro e bq ⟨v, r, aH, aB, bf, cM, rfl, h1, h2, aq, aK, cO, ek, np, pR, jc⟩;have aG : (fun k => (fun k => bf (bP k)) (bP k)) = bf := by funext k; simp only [fM]
  refine ⟨v, r.bd bP, aH.bd bP, aB.bd cu, fun k => bf (bP k), cM, rfl, ⟨r, aH, aB, h1, rfl, rfl, rfl⟩, (fk.bd fM gM vF).2 (by rw [aG]; exact h2), di.bd.2 (by rw [aG]; exact aq), fun j ae => ?_, fun k cs af => ?_, fun i q hi => ?_, fun b ab => ?_, fun b ab => ?_, ⟨jc.os, jc.tape, jc.output, jc.size, fun b ab => jc.block b ⟨ab.1, fun a6 => ab.2 ((eu.bd fM gM).2 a6)⟩⟩⟩
  ·obtain ⟨i, q1, rfl⟩ := ai.EB ae;obtain ⟨cs, q2⟩ := aK i q1;exact ⟨_, Mem.rv fM q2⟩
  ·obtain ⟨ds, c9, _⟩ := Mem.ry af;obtain ⟨q1, ar, q2⟩ := cO (bP k) ds c9;refine ⟨by show bf (bP k) = ad k; rw [q1, fM], ?_⟩;have := Mem.rv fM q2;rw [fM] at this;exact ⟨_, this⟩
  ·exact ek (cu i) q hi
  ·rcases np b ab with q | q | q
   ·exact .inl q
   ·exact .inr (.inl q)
   ·exact .inr (.inr ((eu.bd fM gM).2 q))
  ·have : eu (fun k => (fun k => bf (bP k)) (bP k)) aH aB b := (eu.bd fM gM).1 ab;rw [aG] at this;rcases pR b this with q | q
   ·exact .inl ((eu.bd fM gM).2 q)
   ·exact .inr q
end
def swp (a b j : Nat) : Nat := if j = a then b else if j = b then a else j
theorem nD (a b j : Nat) : swp a b (swp a b j) = j := by unfold swp; grind
theorem E2 (a b : Nat) : swp a b a = b := by simp [swp]
theorem Rj (a b : Nat) : swp a b b = a := by unfold swp; by_cases h : b = a <;> simp [h]
theorem Qt {bP : Nat → Nat} {x : AC} (h : x.ba = true) : x.bd bP = x := by cases x <;> first | rfl | cases h
theorem Qu {bP : Nat → Nat} {xs : List AC} (h : xs.all AC.ba = true) : xs.map (AC.bd bP) = xs := by
 rw [cC] at h
 conv => rhs; rw [← List.map_id xs]
 exact qf fun x aa => Qt (h x aa)
theorem vX {bP : Nat → Nat} {x : ai} (h : x.ba = true) : x.bd bP = x := by
 have key : ∀ y : bK, y.ba = true → y.bd bP = y := fun y ag => by
  cases y with
  | one x => show bK.one (x.bd bP) = _; rw [Qt ag]
  | agg xs => show bK.agg (xs.map _) = _; rw [Qu ag]
 cases x with
 | w x => show ai.w (x.bd bP) = _; rw [key x h]
 | da xs =>
  show ai.da (xs.map _) = _;congr 1;have aF : ∀ x ∈ xs, x.ba = true := cC.1 h
  conv => rhs; rw [← List.map_id xs]
  exact qf fun x aa => key x (aF x aa)
theorem xD {k j : Nat} {cs : List AC} (h : cs.all AC.ba = true) : Mem.bd (swp k j) (cQ k cs) = cQ j cs := by
 funext i;unfold Mem.bd cQ
 by_cases e : i = j
 ·subst e; rw [Rj, cy, cy, hD, Qu h]
 ·rw [ca _ _ e, ca _ _ (fun aO => e (by rw [← nD k j i, aO, E2]))]; rfl
theorem AG {k j : Nat} {r : bQ} : aJ.bd (swp k j) (bL k r) = bL j r := by
 funext i;unfold aJ.bd bL
 by_cases e : i = j
 ·subst e; rw [Rj, cy, cy]
 ·rw [ca _ _ e, ca _ _ (fun aO => e (by rw [← nD k j i, aO, E2]))]; rfl
def qB (P : Program) (f : FuncId) (args : List ai) (cs : List AC) (r : bQ) (post : ai → List AC → bQ → Prop) : Prop :=
 ∀ k i, dt P f (.w (.one (.own k 0)) :: args) (cQ k cs) (bL i r) fun v aH aB => ∃ ar a8, aH = cQ k ar ∧ aB = bL i a8 ∧ post v ar a8
theorem uw {P : Program} {f : FuncId} {args : List ai} {cs : List AC} {r : bQ} {post : ai → List AC → bQ → Prop} (aL : args.all ai.ba = true) (ak : cs.all AC.ba = true) (hp : ∀ v ar a8, post v ar a8 → v.ba = true ∧ ar.all AC.ba = true)
  (h : dt P f (.w (.one (.own 1000 0)) :: args) (cQ 1000 cs) (bL 0 r) fun v aH aB => ∃ ar a8, aH = cQ 1000 ar ∧ aB = bL 0 a8 ∧ post v ar a8) : qB P f args cs r post := by
 intro k i;have h1 := h.bd (bP := swp 1000 k) (cu := swp 0 i) (iX := swp 0 i) (nD _ _) (nD _ _) (nD _ _)
 have aG : (ai.w (.one (.own 1000 0)) :: args).map (ai.bd (swp 1000 k)) = .w (.one (.own k 0)) :: args := by
  have aO : args.map (ai.bd (swp 1000 k)) = args := by
   rw [cC] at aL
   conv => rhs; rw [← List.map_id args]
   exact qf fun x aa => vX (aL x aa)
  rw [lp, aO];show ai.w (.one (.own (swp 1000 k 1000) 0)) :: args = _;rw [E2]
 rw [aG, xD ak, AG] at h1;refine ⟨fun U ad W vs cS ew dT => (h1.call U ad W vs cS ew dT).mono ?_⟩;rintro e bq ⟨v, c3, aH, aB, bf, cM, c9, ⟨ec, m2, eT, ⟨ar, a8, rfl, rfl, al⟩, rfl, rfl, rfl⟩, q⟩;obtain ⟨c1, c2⟩ := hp _ _ _ al;rw [xD c2, AG, vX c1] at q;exact ⟨v, ec, cQ k ar, bL i a8, bf, cM, c9, ⟨ar, a8, rfl, rfl, al⟩, q⟩
section
variable {P : Program} {R : aJ} {s : aC} {ops : Array Oper} {dr : Option (List Nat)} {ty : Nat} {pos : String} {after : Array Edge} {guard : Option (Nat × Bool)} {K : aJ → aC → Prop} {rest : List Oper}
def k8 (dst : Option Nat) (n : Nat) : Bool := match dst with
 | some d => Nat.blt d n
 | none => true
theorem LF {dst : Option Nat} {n : Nat} (h : k8 dst n = true) : ∀ d, dst = some d → d < n := fun d e => by subst e; simpa [k8, Nat.blt_eq] using h
theorem vC {dst : Option Nat} {f : FuncId} {g : Operand} {ts : Array TypeId} {l : List Operand} {args : List ai} {m0 : Mem} {R0 : aJ} {Post : ai → Mem → aJ → Prop} [E : Enters P f] (hw : want ops ⟨dst, .call ⟨.value g, l.toArray, ts⟩, ty, pos, after, guard⟩ s = some true) (hm : dW dr ⟨dst, .call ⟨.value g, l.toArray, ts⟩, ty, pos, after, guard⟩ = true)
  (aw : s.look g = some (aR (.func (.func f) #[] #[]))) (aL : l.map s.look = args.map some) (hp : dt P f args m0 R0 Post) (az : ∀ x ∈ args, ∀ j, x.owns j → ∃ cs, m0 j = some cs) (pZ : ∀ k cs, m0 k = some cs → s.mem k = some cs ∧ (pn dr k = true ∨ ∀ r aH aB, Post r aH aB → aH k = some cs)) (ap : bH R0 R) (fT : ∀ k cs x j, m0 k = some cs → x ∈ cs → x.owns j → ∃ ar, m0 j = some ar) (hd : k8 dst s.n = true)
  (h : ∀ r aH aB, Post r aH aB → (∀ k ar, aH k = some ar → (∃ cs, m0 k = some cs) ∨ (s.mem k = none ∧ k < s.n)) ∧ cT P ops dr K rest (b5 aB R) ((s.over aH).put dst r)) : cT P ops dr K (⟨dst, .call ⟨.value g, l.toArray, ts⟩, ty, pos, after, guard⟩ :: rest) R s := by
 refine ⟨true, hw, LF hd, .inr (.inr (.inr (.inr (.inl ⟨rfl, hm, f, args, m0, R0, Post, ⟨⟨_, g, rfl, rfl, .inl ⟨[], aw, ?_, rfl⟩⟩, E.h⟩, hp, az, pZ, ap, fT, fun r aH aB h1 _ _ _ => h r aH aB h1⟩))))⟩;simpa using aL
theorem Ng (k i : Nat) {dst : Option Nat} {f : FuncId} {g : Operand} {ts : Array TypeId} {l : List Operand} {args : List ai} {cs : List AC} {r : bQ} {post : ai → List AC → bQ → Prop} [E : Enters P f] (hw : want ops ⟨dst, .call ⟨.value g, l.toArray, ts⟩, ty, pos, after, guard⟩ s = some true) (hm : dW dr ⟨dst, .call ⟨.value g, l.toArray, ts⟩, ty, pos, after, guard⟩ = true)
  (aw : s.look g = some (aR (.func (.func f) #[] #[]))) (aL : l.map s.look = (ai.w (.one (.own k 0)) :: args).map some) (hp : qB P f args cs r post) (af : s.mem k = some cs) (hO : pn dr k = true ∨ ∀ v ar a8, post v ar a8 → ar = cs) (hi : R i = some r) (ak : cs.all AC.ba = true) (eC : args.all ai.ba = true) (hd : k8 dst s.n = true)
  (h : ∀ v ar a8, post v ar a8 → cT P ops dr K rest (bS R i a8) ((s.eh k ar).put dst v)) : cT P ops dr K (⟨dst, .call ⟨.value g, l.toArray, ts⟩, ty, pos, after, guard⟩ :: rest) R s := by
 refine vC hw hm aw aL (hp k i) (fun x aa j ae => ?_) (fun k' ar aF => ?_) (fun fN a8 aF => ?_) (fun k' ar x j aF aa ae => ?_) hd ?_
 ·rcases hf.1 aa with rfl | aa
  ·obtain ⟨y, ag, ae⟩ := ae;simp [bK.cells] at ag;subst ag;cases ae;exact ⟨cs, by unfold cQ; exact cy _ _ _⟩
  ·exact absurd ae (ai.dH (cC.1 eC x aa) j)
 ·obtain ⟨rfl, rfl⟩ := hT aF;refine ⟨af, hO.imp id fun hu => ?_⟩;rintro v aH aB ⟨ar, a8, rfl, rfl, al⟩;rw [hu v ar a8 al]; unfold cQ; exact cy _ _ _
 ·obtain ⟨rfl, rfl⟩ := fV aF; exact hi
 ·obtain ⟨rfl, rfl⟩ := hT aF;exact absurd ae (AC.dH (cC.1 ak x aa) j)
 ·rintro v aH aB ⟨ar, a8, rfl, rfl, al⟩;refine ⟨fun k' c aF => ?_, ?_⟩
  ·obtain ⟨rfl, rfl⟩ := hT aF;exact .inl ⟨cs, by unfold cQ; exact cy _ _ _⟩
  ·have aG : b5 (bL i a8) R = bS R i a8 := vT R i a8
   have aO : s.over (cQ k ar) = s.eh k ar := by
    show ({ s with mem := b5 (bS cg k ar) s.mem } : aC) = { s with mem := bS s.mem k ar };rw [show b5 (bS cg k ar) s.mem = bS s.mem k ar from vT s.mem k ar]
   rw [aG, aO];exact h v ar a8 al
theorem su (k i : Nat) {dst : Option Nat} {f : FuncId} {g : Operand} {ts : Array TypeId} {l : List Operand} {args : List ai} {cs : List AC} {r : bQ} {post : ai → List AC → bQ → Prop} [E : Enters P f] (hw : want ops ⟨dst, .call ⟨.value g, l.toArray, ts⟩, ty, pos, after, guard⟩ s = some true) (hm : dW dr ⟨dst, .call ⟨.value g, l.toArray, ts⟩, ty, pos, after, guard⟩ = true)
  (aw : s.look g = some (aR (.func (.func f) #[] #[]))) (aL : l.map s.look = (ai.w (.one (.own k 0)) :: args).map some) (hp : qB P f args cs r post) (af : s.mem k = some cs) (hO : pn dr k = true) (hi : R i = some r) (ak : cs.all AC.ba = true) (eC : args.all ai.ba = true) (hd : k8 dst s.n = true)
  (h : ∀ v ar a8, post v ar a8 → cT P ops dr K rest (bS R i a8) ((s.eh k ar).put dst v)) : cT P ops dr K (⟨dst, .call ⟨.value g, l.toArray, ts⟩, ty, pos, after, guard⟩ :: rest) R s :=
 Ng k i hw hm aw aL hp af (.inl hO) hi ak eC hd h
theorem HJ (k i : Nat) {dst : Option Nat} {f : FuncId} {g : Operand} {ts : Array TypeId} {l : List Operand} {args : List ai} {cs : List AC} {r : bQ} {post : ai → List AC → bQ → Prop} [E : Enters P f] (hw : want ops ⟨dst, .call ⟨.value g, l.toArray, ts⟩, ty, pos, after, guard⟩ s = some true) (hm : dW dr ⟨dst, .call ⟨.value g, l.toArray, ts⟩, ty, pos, after, guard⟩ = true)
  (aw : s.look g = some (aR (.func (.func f) #[] #[]))) (aL : l.map s.look = (ai.w (.one (.own k 0)) :: args).map some) (hp : qB P f args cs r post) (af : s.mem k = some cs) (hO : ∀ v ar a8, post v ar a8 → ar = cs) (hi : R i = some r) (ak : cs.all AC.ba = true) (eC : args.all ai.ba = true) (hd : k8 dst s.n = true)
  (h : ∀ v ar a8, post v ar a8 → cT P ops dr K rest (bS R i a8) ((s.eh k ar).put dst v)) : cT P ops dr K (⟨dst, .call ⟨.value g, l.toArray, ts⟩, ty, pos, after, guard⟩ :: rest) R s :=
 Ng k i hw hm aw aL hp af (.inr hO) hi ak eC hd h
theorem de {x : Operand} {d k off : Nat} {K : aC → Prop} (hw : want ops ⟨some d, .nilCheck x, ty, pos, after, guard⟩ s = some true) (aa : s.look x = some (.w (.one (.own k off)))) (hd : Nat.blt d s.n = true) (h : bi P ops K rest (s.put (some d) (.w (.one (.own k off))))) : bi P ops K (⟨some d, .nilCheck x, ty, pos, after, guard⟩ :: rest) s := by
 refine fY hw ⟨fun _ _ h => (by cases h), fun y ag => ?_, fun U ad W env he => ?_, fun j ae => ⟨x, by simp [Op.operands], _, aa, ae⟩⟩ hd h
 ·simp [Op.operands] at ag;subst ag;exact ⟨_, aa⟩
 ·have hv : env x = .pointer (some ⟨ad k, off, none⟩) := he x (by simp [Op.operands]) _ aa;exact ⟨_, by simp only [execOp, hv]; rfl, rfl⟩
end
section
variable {P : Program}
theorem eB {n : Nat} {cs : List AC} (h : Nat.ble n 1000 = true) : ∀ k ar, cQ 1000 cs k = some ar → n ≤ k := fun k ar af => by
 obtain ⟨rfl, _⟩ := hT af;exact dv h
theorem oD {n : Nat} : ∀ k ar, cg k = some ar → n ≤ k := fun k ar af => by cases af
theorem qW {fn : Func} {l : List ResultVar} {xs : List bK} {R : aJ} {s : aC} {cs ar : List AC} {r a8 : bQ} {post : ai → List AC → bQ → Prop} (ap : fn.results = l.toArray) (h : l.map (iS P s) = xs.map some) (af : s.mem 1000 = some ar) (hi : R 0 = some a8) (ak : ar.all AC.ba = true) (aa : (packed xs).ba = true)
  (hp : post (packed xs) ar a8) : tW P fn (cQ 1000 cs) (bL 0 r) (fun v aH aB => ∃ ar a8, aH = cQ 1000 ar ∧ aB = bL 0 a8 ∧ post v ar a8) R s := by
 refine ⟨xs, packed xs, cQ 1000 ar, bL 0 a8, by rw [ap]; exact h, .refl _, ⟨ar, a8, rfl, rfl, hp⟩, fun k c h => ?_, fun i q h => ?_, fun j ae => absurd ae (ai.dH aa j), fun k c x j h aa ae => ?_, fun k c h => ?_, fun i q h => ?_⟩
 ·obtain ⟨rfl, rfl⟩ := hT h; exact af
 ·obtain ⟨rfl, rfl⟩ := fV h; exact hi
 ·obtain ⟨rfl, rfl⟩ := hT h; exact absurd ae (AC.dH (cC.1 ak x aa) j)
 ·obtain ⟨rfl, rfl⟩ := hT h; exact ⟨ar, by unfold cQ; exact cy _ _ _⟩
 ·obtain ⟨rfl, rfl⟩ := fV h; exact ⟨a8, by unfold bL; exact cy _ _ _⟩
def AC.xM (k : Nat) : AC → Bool
 | .own j _ => Nat.beq j k
 | _ => true
def ai.xM (k : Nat) : ai → Bool
 | .w x => x.cells.all (AC.xM k)
 | .da xs => xs.all fun x => x.cells.all (AC.xM k)
theorem ai.acn {k j : Nat} {x : ai} (h : x.xM k = true) (ae : x.owns j) : j = k := by
 have key : ∀ y : bK, y.cells.all (AC.xM k) = true → y.owns j → j = k := by
  rintro y ag ⟨z, aZ, zP⟩;have := cC.1 ag z aZ;cases z with
  | own i o => cases zP; exact hE this
  | c v => cases zP
  | p R => cases zP
 cases x with
 | w y => exact key y h ae
 | da xs =>
  obtain ⟨y, ag, mg⟩ := ae;exact key y (cC.1 h y ag) mg
end
abbrev afY : ai := aR (.slice none 0 0)
theorem O4 (z : Nat) : afY.br (cU z 0 []) := fun U ad W v h => by
 obtain ⟨rfl, _⟩ := h;exact ⟨⟨none, 0, rfl, dU _, by simp, fun h => absurd h (Nat.lt_irrefl _)⟩, fun b ⟨c, a, q, aE, _⟩ => absurd aE (Nat.lt_irrefl _)⟩
section
variable {P : Program} {R : aJ} {s : aC} {ops : Array Oper} {dr : Option (List Nat)} {ty : Nat} {pos : String} {after : Array Edge} {guard : Option (Nat × Bool)} {K : aJ → aC → Prop} {rest : List Oper}
end
end Go.Proofs.YtpochbhajmbfdaaGreat
namespace Go.Proofs.YtpochbhajmbfdaaGreat
open Go
section
variable {P : Program} {ops : Array Oper} {Q : Exit → Act → World → Prop} {md : Region.Mode} {S : World → Prop} {T : Nat → Bool}
def nM (P : Program) (md : Region.Mode) (ops : Array Oper) (Q : Exit → Act → World → Prop) (S : World → Prop) (T : Nat → Bool) : Nat → Array Bool → Act → World → Prop
 | 0, l, a, w => Region.ready md ops l = [] ∧ Q .normal a w
 | n + 1, l, a, w => (Region.ready md ops l = [] → Q .normal a w) ∧ ∀ i ∈ Region.ready md ops l, wpOp P ops Q i (fun a' w' => (T i = true ∨ S w') ∧ nM P md ops Q S T n (l.setIfInBounds i true) a' w') a w
theorem nM.any {n : Nat} : ∀ {l : Array Bool} {a : Act} {w : World}, nM P md ops Q S T n l a w → wpAny P md ops Q n l a w := by
 induction n with
 | zero => exact fun h => h
 | succ n cF => exact fun h => ⟨h.1, fun i hi => wpOp_mono (fun _ _ k => cF k.2) (h.2 i hi)⟩
theorem O6 {l : Array Bool} {i j : Nat} {bk : Oper} {e : Edge} (jg : l.getD i true = false) (ae : j ∈ Region.ready md ops l) (fS : ops[j]? = some bk) (he : e ∈ bk.after) (ab : Region.binds md e = true) : e.on ≠ i := by
 rintro rfl;obtain ⟨_, o, az, dp⟩ := mem_ready.1 ae;obtain rfl : bk = o := mY (fS.symm.trans az);have h := dp e he ab;cases hs : l[e.on]? with
 | none => simp [xR, hs] at jg
 | some b => simp [xR, hs] at jg h; rw [jg] at h; cases h
theorem afU {l : Array Bool} {j m : Nat} (h : (l.setIfInBounds j true).getD m true = false) : l.getD m true = false := by
 by_cases e : j = m
 ·subst e;rw [xR, Array.getElem?_setIfInBounds] at h
  by_cases q : j < l.size
  ·simp [q] at h
  ·rw [if_pos rfl, if_neg q] at h; cases h
 ·rw [getD_set_ne true e] at h; exact h
theorem nM.first {i k : Nat} {bn : Oper} {v : Value} {U : Nat → Prop} (hi : ops[i]? = some bn) (Nn : ∀ (j : Nat) (o : Oper) cs b, ops[j]? = some o → o.op ≠ .select cs b)
  (jA : ∀ c a w, Q (.panic c) (a.put bn.dst v) w → Q (.panic c) a w)
  (pV : ∀ j bk, U j → ops[j]? = some bk → j ≠ i → (∀ e ∈ bk.after, Region.binds md e = true → e.on ≠ i) → bn.apart ops bk = true)
  (en : ∀ j bk, U j → T j = true → ops[j]? = some bk → ∃ e ∈ bk.after, Region.binds md e = true ∧ (e.on = i ∨ e.on = k))
  (af : ∀ ok, ops[k]? = some ok → ∃ e ∈ ok.after, Region.binds md e = true ∧ e.on = i) (n : Nat) :
  ∀ (l : Array Bool) (a : Act) (w : World), (∀ j, l.getD j true = false → U j) → l.getD k true = false → i ∈ Region.ready md ops l → YieldsIf P ops S bn v a → S w →
   nM P md ops Q S T n (l.setIfInBounds i true) (a.put bn.dst v) w → nM P md ops Q S T (n + 1) l a w := by
 induction n with
 | zero =>
  intro l a w _ _ ap ag hS H;refine ⟨fun h => absurd (h ▸ ap) (rj), fun j ae => ?_⟩
  by_cases e : j = i
  ·exact e ▸ ag.wpOp hi hS ⟨.inr hS, H⟩
  ·exact absurd (H.1 ▸ ready_mono ae e) (rj)
 | succ n cF =>
  intro l a w dI ao ap ag hS H;have jg : l.getD i true = false := (mem_ready.1 ap).1;refine ⟨fun h => absurd (h ▸ ap) (rj), fun j ae => ?_⟩
  by_cases e : j = i
  ·exact e ▸ ag.wpOp hi hS ⟨.inr hS, H⟩
  obtain ⟨_, bk, fS, _⟩ := mem_ready.1 ae;have jX : ∀ e ∈ bk.after, Region.binds md e = true → e.on ≠ i := fun e he ab => O6 jg ae fS he ab;have MB : U j := dI j (mem_ready.1 ae).1;refine wpOp_mono (fun a' w' h => ?_) (wpOp_putIf fS (pV j bk MB fS e jX) (fun cs b => Nn i bn cs b hi) (fun cs b => Nn j bk cs b fS) jA ag (H.2 j (ready_mono ae e)));obtain ⟨HU, aD | fC, ft⟩ := h
  ·obtain ⟨x, aa, ab, mK | mK⟩ := en j bk MB aD fS
   ·exact absurd mK (jX x aa ab)
   ·exact absurd mK (O6 ao ae fS aa ab)
  ·have ZR : j ≠ k := fun gV => by
    subst gV;obtain ⟨x, aa, ab, mK⟩ := af bk fS;exact jX x aa ab mK
   refine ⟨.inr fC, cF _ a' w' (fun m hm => dI m (afU hm)) (by rw [getD_set_ne true ZR]; exact ao) (ready_mono ap (Ne.symm e)) HU fC ?_⟩;rw [Array.setIfInBounds_comm _ _ e];exact ft
def Ov (md : Region.Mode) (ops : Array Oper) (T : Nat → Bool) (l : Array Bool) (bn : Oper) (i k : Nat) : Bool :=
 (List.range ops.size).all (fun j => l.getD j true || (j == i || Region.waitsFor md ops j i || (match ops[j]? with | some bk => bn.apart ops bk | none => true)) && (!T j || Region.waitsFor md ops j i || Region.waitsFor md ops j k)) && Region.waitsFor md ops k i && !l.getD k true
theorem Fg {i j : Nat} {bk : Oper} (az : ops[j]? = some bk) (h : Region.waitsFor md ops j i = true) : ∃ e ∈ bk.after, Region.binds md e = true ∧ e.on = i := by
 obtain ⟨o, h2, aq⟩ := Region.waitsFor_spec h;obtain rfl : bk = o := mY (az.symm.trans h2);exact aq
theorem JE {i : Nat} (k : Nat) {bn : Oper} {v : Value} {n : Nat} {l : Array Bool} {a : Act} {w : World} (hi : ops[i]? = some bn)
  (hs : Region.noSelect ops = true) (ap : (Region.ready md ops l).contains i = true) (hm : Ov md ops T l bn i k = true)
  (jA : ∀ c a w, Q (.panic c) (a.put bn.dst v) w → Q (.panic c) a w) (ag : YieldsIf P ops S bn v a) (hS : S w)
  (h : nM P md ops Q S T n (l.setIfInBounds i true) (a.put bn.dst v) w) : nM P md ops Q S T (n + 1) l a w := by
 unfold Ov at hm;simp only [eo, uH] at hm;obtain ⟨⟨dp, kT⟩, ao⟩ := hm
 have at_ : ∀ j bk, l.getD j true = false → ops[j]? = some bk → (j == i || Region.waitsFor md ops j i || bn.apart ops bk) = true ∧ (!T j || Region.waitsFor md ops j i || Region.waitsFor md ops j k) = true := fun j bk hu az => by
  have bj : j < ops.size := by
   rcases jn j ops.size with h | h
   ·exact h
   ·rw [vV h] at az; cases az
  have := cC.1 dp j (List.mem_range.2 bj);rw [az, hu, Bool.false_or] at this;simpa only [eo] using this
 refine nM.first (k := k) (U := fun j => l.getD j true = false) hi (Region.noSelect_spec hs) jA (fun j bk hu az ne jX => ?_) (fun j bk hu aD az => ?_) (fun ok az => Fg az kT) n l a w (fun _ h => h) ao (by simpa using ap) ag hS h
 ·have h1 := (at_ j bk hu az).1;simp only [rl, beq_iff_eq] at h1;rcases h1 with (h1 | h1) | h1
  ·exact absurd h1 ne
  ·obtain ⟨e, he, ab, mK⟩ := Fg az h1;exact absurd mK (jX e he ab)
  ·exact h1
 ·have h1 := (at_ j bk hu az).2;simp only [aD, Bool.not_true, Bool.false_or, rl] at h1;rcases h1 with h1 | h1
  ·obtain ⟨e, he, ab, mK⟩ := Fg az h1;exact ⟨e, he, ab, .inl mK⟩
  ·obtain ⟨e, he, ab, mK⟩ := Fg az h1;exact ⟨e, he, ab, .inr mK⟩
theorem Ba {i : Nat} {o : Oper} {n : Nat} {l : Array Bool} {a : Act} {w : World} (ap : Region.ready md ops l = [i]) (az : ops[i]? = some o)
  (h : ∀ iY : Act → World → Prop, Shut (∀ a w, (T i = true ∨ S w) → nM P md ops Q S T n (l.setIfInBounds i true) a w → iY a w) → if Region.wanted o (yielded ops a.tmps) = true then Oper.wp P o a w iY Q else iY (a.put o.dst undef) w) :
  nM P md ops Q S T (n + 1) l a w := by
 refine ⟨fun aI => absurd (ap.symm.trans aI) (by simp), fun j ae => ?_⟩;obtain rfl : j = i := by rw [ap] at ae; simpa using ae
 exact wpOp_step az (fun iY ef => h iY (fun a w x y => ef a w ⟨x, y⟩))
theorem af6 {l : Array Bool} {a : Act} {w : World} (ap : Region.ready md ops l = []) (h : Q .normal a w) (n : Nat) : nM P md ops Q S T n l a w := by
 cases n with
 | zero => exact ⟨ap, h⟩
 | succ n => exact ⟨fun _ => h, fun i hi => absurd (ap ▸ hi) (rj)⟩
theorem af8 {id : Nat} {a : Act} {w : World} (hm : P.follows .mixedOrders = true)
  (h : nM P .any ops Q S T ops.size (Array.replicate ops.size false) a w.drew) : (Code.region id ops true).wp P Q a w :=
 wp_region_any hm h.any
end
end Go.Proofs.YtpochbhajmbfdaaGreat
namespace Go.Proofs.YtpochbhajmbfdaaGreat
open Go.RowKit
end Go.Proofs.YtpochbhajmbfdaaGreat
namespace Go.Proofs.YtpochbhajmbfdaaGreat
open Go.RowKit
end Go.Proofs.YtpochbhajmbfdaaGreat
namespace Go.Proofs.YtpochbhajmbfdaaGreat
open Go.RowKit
theorem Ny {a b : Int} (h : a < b) : gb a b = -1 := by unfold gb; rw [if_neg (by omega), if_pos h]
theorem Zs {a b : Int} (h : b < a) : gb a b = 1 := by unfold gb; rw [if_neg (by omega), if_neg (by omega)]
end Go.Proofs.YtpochbhajmbfdaaGreat
namespace Go.Proofs.YtpochbhajmbfdaaGreat
open Go.RowKit
end Go.Proofs.YtpochbhajmbfdaaGreat
namespace Go.Proofs.YtpochbhajmbfdaaGreat
open Go.RowKit
end Go.Proofs.YtpochbhajmbfdaaGreat
namespace Go.Proofs.YtpochbhajmbfdaaGreat
open Go.RowKit
end Go.Proofs.YtpochbhajmbfdaaGreat
namespace Go.Proofs.YtpochbhajmbfdaaGreat
open Go.RowKit
end Go.Proofs.YtpochbhajmbfdaaGreat
namespace Go.Proofs.YtpochbhajmbfdaaGreat
open Go.RowKit
theorem Zr {a b : Int} : (gb a b ≥ 0) ↔ b ≤ a := by
 unfold gb
 repeat' split
 all_goals omega
end Go.Proofs.YtpochbhajmbfdaaGreat
namespace Go.Proofs.YtpochbhajmbfdaaGreat
open Go.RowKit
end Go.Proofs.YtpochbhajmbfdaaGreat
namespace Go.Proofs.YtpochbhajmbfdaaGreat
open Go.RowKit
end Go.Proofs.YtpochbhajmbfdaaGreat
namespace Go.Proofs.YtpochbhajmbfdaaGreat
open Go.RowKit
theorem P5 (j : Nat) : (0 : Int) < 2 ^ j ∧ (2 : Int) ^ j < 10000 ^ (j + 1) := by
 induction j with
 | zero => decide
 | succ j cF => rw [Int.pow_succ, Int.pow_succ (10000 : Int) (j + 1)]; omega
end Go.Proofs.YtpochbhajmbfdaaGreat
namespace Go.Proofs
open Go.Shelf
def Tryz.aaz : Go.Shelf.Ren := ⟨fun | 134 => 305 | 129 => 300 | n => n, fun | 53 => 157 | 3 => 3 | 4 => 4 | 46 => 253 | 5 => 5 | 9 => 9 | n => n, fun | n => n⟩
theorem Tryz.aay : Go.Proofs.Lays.n134 aj Tryz.aaz := {
 mixed := by kernel_rfl
 f129 := Tryz.func300.trans (congrArg some (by kernel_rfl))
 f134 := Tryz.func305.trans (congrArg some (by kernel_rfl))
 t3 := Tryz.underlying3
 a3 := Tryz.isAgg3
 z3 := Tryz.sizeOf3
 v3 := Tryz.zeroValue3
 t4 := Tryz.underlying4
 a4 := Tryz.isAgg4
 z4 := Tryz.sizeOf4
 v4 := Tryz.zeroValue4
 t5 := Tryz.underlying5
 a5 := Tryz.isAgg5
 z5 := Tryz.sizeOf5
 v5 := Tryz.zeroValue5
 t9 := Tryz.underlying9
 a9 := Tryz.isAgg9
 z9 := Tryz.sizeOf9
 v9 := Tryz.zeroValue9
 t46 := Tryz.underlying253
 a46 := Tryz.isAgg253
 z46 := Tryz.sizeOf253
 v46 := Tryz.zeroValue253
 t53 := Tryz.underlying157
 a53 := Tryz.isAgg157
 z53 := Tryz.sizeOf157
 v53 := Tryz.zeroValue157 }
theorem Tryz.bits_LeadingZeros64 (x : Int) (w : World) (aI : 0 ≤ x) (h1 : x ≤ 18446744073709551615) :
  Calls aj 305 #[.int .u64 x] w fun e w' => e = .returned (.int .i64 (64 - (Lib.bitLen x.toNat : Int))) ∧ w' = w := Any.bits_LeadingZeros64 Tryz.aay x w aI h1
def Tryz.aax : Go.Shelf.Ren := ⟨fun | 129 => 300 | n => n, fun | 53 => 157 | 3 => 3 | 4 => 4 | 46 => 253 | 5 => 5 | 9 => 9 | n => n, fun | n => n⟩
theorem Tryz.aaw : Go.Proofs.Lays.n129 aj Tryz.aax := {
 mixed := by kernel_rfl
 f129 := Tryz.func300.trans (congrArg some (by kernel_rfl))
 t3 := Tryz.underlying3
 a3 := Tryz.isAgg3
 z3 := Tryz.sizeOf3
 v3 := Tryz.zeroValue3
 t4 := Tryz.underlying4
 a4 := Tryz.isAgg4
 z4 := Tryz.sizeOf4
 v4 := Tryz.zeroValue4
 t5 := Tryz.underlying5
 a5 := Tryz.isAgg5
 z5 := Tryz.sizeOf5
 v5 := Tryz.zeroValue5
 t9 := Tryz.underlying9
 a9 := Tryz.isAgg9
 z9 := Tryz.sizeOf9
 v9 := Tryz.zeroValue9
 t46 := Tryz.underlying253
 a46 := Tryz.isAgg253
 z46 := Tryz.sizeOf253
 v46 := Tryz.zeroValue253
 t53 := Tryz.underlying157
 a53 := Tryz.isAgg157
 z53 := Tryz.sizeOf157
 v53 := Tryz.zeroValue157 }
theorem Tryz.bits_Len64 (x : Int) (w : World) (aI : 0 ≤ x) (h1 : x ≤ 18446744073709551615) :
  Calls aj 300 #[.int .u64 x] w fun e w' => e = .returned (.int .i64 (Lib.bitLen x.toNat)) ∧ w' = w := Any.bits_Len64 Tryz.aaw x w aI h1
def Tryz.aaB : Go.Shelf.Ren := ⟨fun | 264 => 258 | n => n, fun | 53 => 157 | 46 => 253 | n => n, fun | n => n⟩
theorem Tryz.aaA : Go.Proofs.Lays.n264 aj Tryz.aaB := {
 mixed := by kernel_rfl
 f264 := Tryz.func258.trans (congrArg some (by kernel_rfl))
 t46 := Tryz.underlying253
 a46 := Tryz.isAgg253
 z46 := Tryz.sizeOf253
 v46 := Tryz.zeroValue253
 t53 := Tryz.underlying157
 a53 := Tryz.isAgg157
 z53 := Tryz.sizeOf157
 v53 := Tryz.zeroValue157 }
open Go.RowKit Go.Lib in
theorem Tryz.bits_Mul64 (x y : Nat) (aa : x < 18446744073709551616) (ag : y < 18446744073709551616) (w : World) :
  Calls aj 258 #[.int .u64 x, .int .u64 y] w fun e w' => e = .returned (.tuple #[.int .u64 ((x * y / 18446744073709551616 : Nat) : Int), .int .u64 ((x * y % 18446744073709551616 : Nat) : Int)]) ∧ w' = w := Any.bits_Mul64 Tryz.aaA x y aa ag w
end Go.Proofs
namespace Go.Proofs.YtpochbhajmbfdaaGreat
open Go.RowKit
theorem cR.conv {H L n m : Int} (h : cR H L n) (e : n = m) : cR H L m := e ▸ h
theorem size_pos {h l n : Int} (H : bx h l n) (k : 0 ≤ h) : cR (IntKind.u64.wrap h) l n.natAbs := by
  obtain ⟨b1, b2, rfl⟩ := H;unfold cR;rw [IntKind.wrap_u64];omega
theorem afc {h l n a b : Int} (H : bx h l n) (K : bx a b (wr (0 - n))) (k : h < 0) : cR (IntKind.u64.wrap a) b n.natAbs := by
  obtain ⟨b1, b2, rfl⟩ := H;obtain ⟨eF, dV, e⟩ := K;unfold wr at e;unfold cR;rw [IntKind.wrap_u64];omega
theorem AV (h1 l1 n : Int) (w : World) (H1 : bx h1 l1 n) :
    Calls aj 279 #[.agg #[.int .i64 h1, .int .u64 l1]] w (aX n.natAbs w) := by
  go_enter Tryz.func279, Tryz.ntmps279
  go_wp2_with (go_at_call 245; refine (Ag _ _ _ _ _ _ _ oX H1).mono ?_; rintro e aP ⟨gz, ij, rfl, hs, ab⟩; have yD := Below.cell ab (p := ⟨w.heap.size, 0, none⟩) (by (simp; omega)); have yX := Below.frozen ab (p := ⟨w.heap.size, 0, none⟩) (by (simp; omega)); have yE := Below.cell ab (p := ⟨w.heap.size, 1, none⟩) (by (simp; omega)); have yY := Below.frozen ab (p := ⟨w.heap.size, 1, none⟩) (by (simp; omega)); have Ce := Below.cell ab (p := ⟨w.heap.size + 1, 0, none⟩) (by (simp; done)); have CF := Below.frozen ab (p := ⟨w.heap.size + 1, 0, none⟩) (by (simp; done)); have Cf := Below.cell ab (p := ⟨w.heap.size + 1, 1, none⟩) (by (simp; done)); have CG := Below.frozen ab (p := ⟨w.heap.size + 1, 1, none⟩) (by (simp; done)); have n4 := Below.size ab; (try simp at n4); have xH : ¬ aP.heap.size = w.heap.size := (by omega); have Al : ¬ aP.heap.size = w.heap.size + 1 := (by omega))
  · refine bodyPost_ret (v := .agg #[.int .u64 (IntKind.u64.wrap gz), .int .u64 ij]) (by simp only [results, Tryz.results279]; go_simp) rfl ⟨_, _, rfl, afc H1 hs ‹_›, ?_⟩
    (repeat first | with_reducible exact Below.refl _ _ | with_reducible refine c6 ?_ _ | focus ((with_reducible refine eW ?_ _ _ _ ?_); rotate_left; omega) | with_reducible refine b6 ?_ ab)
  · refine bodyPost_ret (v := .agg #[.int .u64 (IntKind.u64.wrap h1), .int .u64 l1]) (by simp only [results, Tryz.results279]; go_simp) rfl ⟨_, _, rfl, size_pos H1 ‹_›, ?_⟩
    (repeat first | with_reducible exact Below.refl _ _ | with_reducible refine c6 ?_ _)
theorem ae9 {h l n : Int} (H : cR h l n) : bx (wrap64 h) l (wr n) := by
  obtain ⟨b1, b2, rfl⟩ := H;unfold bx wr wrap64;omega
theorem Q7 {h l n : Int} (H : cR h l n) (k : ga h l 0 0 = true ∨ 0 ≤ wrap64 h) : fits n = true ∧ bx (wrap64 h) l n := by
  rw [H.ga zT, c0] at k;obtain ⟨b1, b2, rfl⟩ := H;unfold fits bx wrap64 at *;rw [c0];omega
theorem aeY {h l n : Int} (H : cR h l n) (j : ga h l 0 0 = false) (k : wrap64 h < 0) : fits n = false := by
  rw [H.ga zT, mX] at j;obtain ⟨b1, b2, rfl⟩ := H;unfold fits wrap64 at *;rw [mX];omega
theorem Q6 {h l n a b : Int} (H : cR h l n) (K : bx a b (wr (0 - wr n))) (k : ga h l 0 0 = true ∨ a < 0) : fits (-n) = true ∧ bx a b (-n) := by
  rw [H.ga zT, c0] at k;obtain ⟨b1, b2, rfl⟩ := H;obtain ⟨eF, dV, e⟩ := K;unfold wr at e;unfold fits bx;rw [c0];omega
theorem aeV {h l n a b : Int} (H : cR h l n) (K : bx a b (wr (0 - wr n))) (j : ga h l 0 0 = false) (k : 0 ≤ a) : fits (-n) = false := by
  rw [H.ga zT, mX] at j;obtain ⟨b1, b2, rfl⟩ := H;obtain ⟨eF, dV, e⟩ := K;unfold wr at e;unfold fits;rw [mX];omega
theorem Jp (h1 l1 n : Int) (w : World) (H1 : cR h1 l1 n) :
    Calls aj 280 #[.agg #[.int .u64 h1, .int .u64 l1], .bool false] w (mA n w) := by
  go_enter Tryz.func280, Tryz.ntmps280
  go_wp2
  · refine bodyPost_ret (v := .tuple #[.agg #[.int .i64 0, .int .u64 0], .bool false]) (by simp only [results, Tryz.results280]; go_simp) rfl (v8 (aeY H1 ‹_› ‹_›) ?_)
    (repeat first | with_reducible exact Below.refl _ _ | with_reducible refine c6 ?_ _)
  · have ag := Q7 H1 (.inr ‹_›)
    refine bodyPost_ret (v := .tuple #[.agg #[.int .i64 (wrap64 h1), .int .u64 l1], .bool true]) (by simp only [results, Tryz.results280]; go_simp) rfl (s5 ag.1 ag.2 ?_);(repeat first | with_reducible exact Below.refl _ _ | with_reducible refine c6 ?_ _)
  · have ag := Q7 H1 (.inl ‹_›)
    refine bodyPost_ret (v := .tuple #[.agg #[.int .i64 (wrap64 h1), .int .u64 l1], .bool true]) (by simp only [results, Tryz.results280]; go_simp) rfl (s5 ag.1 ag.2 ?_);(repeat first | with_reducible exact Below.refl _ _ | with_reducible refine c6 ?_ _)
theorem Jo (h1 l1 n : Int) (w : World) (H1 : cR h1 l1 n) :
    Calls aj 280 #[.agg #[.int .u64 h1, .int .u64 l1], .bool true] w (mA (-n) w) := by
  go_enter Tryz.func280, Tryz.ntmps280
  go_wp2_with (go_at_call 245; refine (Ag _ _ _ _ _ _ _ oX (ae9 H1)).mono ?_; rintro e aP ⟨gz, ij, rfl, hs, ab⟩; have yD := Below.cell ab (p := ⟨w.heap.size, 0, none⟩) (by (simp; omega)); have yX := Below.frozen ab (p := ⟨w.heap.size, 0, none⟩) (by (simp; omega)); have yE := Below.cell ab (p := ⟨w.heap.size, 1, none⟩) (by (simp; omega)); have yY := Below.frozen ab (p := ⟨w.heap.size, 1, none⟩) (by (simp; omega)); have Ce := Below.cell ab (p := ⟨w.heap.size + 1, 0, none⟩) (by (simp; done)); have CF := Below.frozen ab (p := ⟨w.heap.size + 1, 0, none⟩) (by (simp; done)); have Cf := Below.cell ab (p := ⟨w.heap.size + 1, 1, none⟩) (by (simp; done)); have CG := Below.frozen ab (p := ⟨w.heap.size + 1, 1, none⟩) (by (simp; done)); have n4 := Below.size ab; (try simp at n4); have xH : ¬ aP.heap.size = w.heap.size := (by omega); have Al : ¬ aP.heap.size = w.heap.size + 1 := (by omega))
  · refine bodyPost_ret (v := .tuple #[.agg #[.int .i64 0, .int .u64 0], .bool false]) (by simp only [results, Tryz.results280]; go_simp) rfl (v8 (aeV H1 hs ‹_› (by have h := ‹(!decide (gz < 0)) = true›; simpa using h)) ?_)
    (repeat first | with_reducible exact Below.refl _ _ | with_reducible refine c6 ?_ _ | focus ((with_reducible refine eW ?_ _ _ _ ?_); rotate_left; omega) | with_reducible refine b6 ?_ ab)
  · have ag := Q6 H1 hs (.inr (by have h := ‹(!decide (gz < 0)) = false›; simpa using h))
    refine bodyPost_ret (v := .tuple #[.agg #[.int .i64 gz, .int .u64 ij], .bool true]) (by simp only [results, Tryz.results280]; go_simp) rfl (s5 ag.1 ag.2 ?_);(repeat first | with_reducible exact Below.refl _ _ | with_reducible refine c6 ?_ _ | focus ((with_reducible refine eW ?_ _ _ _ ?_); rotate_left; omega) | with_reducible refine b6 ?_ ab)
  · have ag := Q6 H1 hs (.inl ‹_›)
    refine bodyPost_ret (v := .tuple #[.agg #[.int .i64 gz, .int .u64 ij], .bool true]) (by simp only [results, Tryz.results280]; go_simp) rfl (s5 ag.1 ag.2 ?_);(repeat first | with_reducible exact Below.refl _ _ | with_reducible refine c6 ?_ _ | focus ((with_reducible refine eW ?_ _ _ _ ?_); rotate_left; omega) | with_reducible refine b6 ?_ ab)
theorem Rd (h1 l1 n : Int) (b : Bool) (w : World) (H1 : cR h1 l1 n) :
    Calls aj 280 #[.agg #[.int .u64 h1, .int .u64 l1], .bool b] w (mA (if b then -n else n) w) := by
  cases b
  · exact Jp h1 l1 n w H1
  · exact Jo h1 l1 n w H1
theorem aaJ (h1 l1 n h2 l2 m : Int) (w : World) (H1 : cR h1 l1 n) (cm : cR h2 l2 m) :
    Calls aj 304 #[.agg #[.int .u64 h1, .int .u64 l1], .agg #[.int .u64 h2, .int .u64 l2]] w (hj (.bool (decide (n < m))) w) := by
  go_enter Tryz.func304, Tryz.ntmps304
  go_wp2
  all_goals
    go_ret
    refine ⟨Qy ?_, by (repeat first | with_reducible exact Below.refl _ _ | with_reducible refine c6 ?_ _)⟩;obtain ⟨b1, b2, aG⟩ := H1;obtain ⟨eF, dV, aO⟩ := cm;rw [sR];simp only [c0, true_iff, od, false_iff];omega
theorem afx (h1 l1 h2 l2 : Int) (b1 : 0 ≤ h1 ∧ h1 < 18446744073709551616) (b2 : 0 ≤ l1 ∧ l1 < 18446744073709551616)
   (eF : 0 ≤ h2 ∧ h2 < 18446744073709551616) (dV : 0 ≤ l2 ∧ l2 < 18446744073709551616) (hle : h2 * 18446744073709551616 + l2 ≤ h1 * 18446744073709551616 + l1) :
   cR ((h1 - h2 - -((l1 - l2 - 0) / 18446744073709551616)) % 18446744073709551616) ((l1 - l2 - 0) % 18446744073709551616) ((h1 * 18446744073709551616 + l1) - (h2 * 18446744073709551616 + l2)) := by
  unfold cR;omega
theorem Ri (h1 l1 n h2 l2 m : Int) (w : World) (H1 : cR h1 l1 n) (cm : cR h2 l2 m) (hle : m ≤ n) :
    Calls aj 303 #[.agg #[.int .u64 h1, .int .u64 l1], .agg #[.int .u64 h2, .int .u64 l2]] w (aX (n - m) w) := by
  obtain ⟨b1, b2, rfl⟩ := H1;obtain ⟨eF, dV, rfl⟩ := cm;have hv := afx h1 l1 h2 l2 b1 b2 eF dV hle;have aG := fun w => E0 l1 l2 0 b2.1 b2.2 dV.1 dV.2 (by omega) (by omega) w;have aO := fun w => E0 h1 h2 (-((l1 - l2 - 0) / 18446744073709551616)) b1.1 b1.2 eF.1 eF.2 (by omega) (by omega) w;generalize -((l1 - l2 - 0) / 18446744073709551616) = c at *;generalize (l1 - l2 - 0) % 18446744073709551616 = s at *;generalize (h1 - h2 - c) % 18446744073709551616 = s' at *;generalize -((h1 - h2 - c) / 18446744073709551616) = c' at *;generalize (h1 * 18446744073709551616 + l1) - (h2 * 18446744073709551616 + l2) = O5 at *;clear b1 b2 eF dV hle
  go_enter Tryz.func303, Tryz.ntmps303
  go_wp2
  refine bodyPost_ret (v := .agg #[.int .u64 s', .int .u64 s]) (by simp only [results, Tryz.results303]; go_simp) rfl ⟨_, _, rfl, hv, ?_⟩;(repeat first | with_reducible exact Below.refl _ _ | with_reducible refine c6 ?_ _)
end Go.Proofs.YtpochbhajmbfdaaGreat
namespace Go.Proofs.YtpochbhajmbfdaaGreat
def qz (n len : Nat) : Prop := (n = 0 ∧ len = 0) ∨ (1 ≤ len ∧ len ≤ 128 ∧ 2 ^ (len - 1) ≤ n ∧ n < 2 ^ len)
theorem rD : (2 : Nat) ^ 64 = 18446744073709551616 := by decide
theorem Rs : (2 : Nat) ^ 128 = 340282366920938463463374607431768211456 := by decide
theorem Oc (l : Nat) (h : l < 18446744073709551616) : qz l (Lib.bitLen l) := by
  by_cases e : l = 0
  · subst e
    exact .inl ⟨rfl, Lib.bitLenAux_zero 64⟩
  · obtain ⟨a, b, c⟩ := Lib.bitLenAux_bounds 64 l (by rw [rD]; exact h) e
    have d : Lib.bitLen l ≤ 64 := Lib.bitLen_le l 64 (dU _) (by rw [rD]; exact h);exact .inr ⟨a, by omega, b, c⟩
theorem aaF (h l : Nat) (aI : h ≠ 0) (a6 : h < 18446744073709551616) (ao : l < 18446744073709551616) : qz (h * 18446744073709551616 + l) (64 + Lib.bitLen h) ∧ Lib.bitLen h ≤ 64 := by
  obtain ⟨a, b, c⟩ := Lib.bitLenAux_bounds 64 h (by rw [rD]; exact a6) aI;have d : Lib.bitLen h ≤ 64 := Lib.bitLen_le h 64 (dU _) (by rw [rD]; exact a6);have e : Lib.bitLenAux 64 h = Lib.bitLen h := rfl;rw [e] at a b c;refine ⟨.inr ⟨by omega, by omega, ?_, ?_⟩, d⟩
  · rw [show 64 + Lib.bitLen h - 1 = (Lib.bitLen h - 1) + 64 by omega, Nat.pow_add, rD]
    generalize 2 ^ (Lib.bitLen h - 1) = P at *;omega
  · rw [show 64 + Lib.bitLen h = Lib.bitLen h + 64 by omega, Nat.pow_add, rD]
    generalize 2 ^ Lib.bitLen h = P at *;omega
theorem aaG {n len : Nat} (h : qz n len) : len ≤ 128 := by rcases h with h | h <;> omega
theorem aaH {n len k : Nat} (h : qz n len) (aI : n ≠ 0) (af : 128 < k + len) : 340282366920938463463374607431768211456 ≤ n * 2 ^ k := by
  rcases h with h | ⟨a, b, c, d⟩
  · omega
  · have h1 := ky (2 ^ k) c
    rw [← Nat.pow_add] at h1;have h2 : 2 ^ 128 ≤ 2 ^ (len - 1 + k) := Nat.pow_le_pow_right (by decide) (by omega);rw [Rs] at h2;omega
theorem aaI {n len k : Nat} (h : qz n len) (af : k + len ≤ 128) : n * 2 ^ k < 340282366920938463463374607431768211456 := by
  rcases h with ⟨rfl, rfl⟩ | ⟨a, b, c, d⟩
  · simp
  · have h1 := Nat.mul_lt_mul_of_pos_right d (Nat.two_pow_pos k)
    rw [← Nat.pow_add] at h1;have h2 : 2 ^ (len + k) ≤ 2 ^ 128 := Nat.pow_le_pow_right (by decide) (by omega);rw [Rs] at h2;omega
theorem ae2 (h l k : Nat) (ao : l < 18446744073709551616) (af : k < 64) (ab : (h * 18446744073709551616 + l) * 2 ^ k < 340282366920938463463374607431768211456) :
    h * 2 ^ k < 18446744073709551616 ∧ l / 2 ^ (64 - k) < 2 ^ k ∧ h * 2 ^ k + l / 2 ^ (64 - k) < 18446744073709551616 ∧
    (h * 18446744073709551616 + l) * 2 ^ k = (h * 2 ^ k + l / 2 ^ (64 - k)) * 18446744073709551616 + (l * 2 ^ k) % 18446744073709551616 := by
  have I2 : 2 ^ k * 2 ^ (64 - k) = 18446744073709551616 := by rw [← Nat.pow_add, show k + (64 - k) = 64 by omega, rD]
  have adK : 0 < 2 ^ k := Nat.two_pow_pos k;have Qo : 0 < 2 ^ (64 - k) := Nat.two_pow_pos _;generalize 2 ^ k = p at *;generalize 2 ^ (64 - k) = q at *;have hd : l / q < p := by rw [Nat.div_lt_iff_lt_mul Qo, I2]; exact ao
  have aG : l * p = 18446744073709551616 * (l / q) + p * (l % q) := by
    conv => lhs; rw [← Nat.div_add_mod l q]
    rw [kx, ← I2, Nat.mul_comm (l % q) p, Nat.mul_assoc p q, Nat.mul_comm (q * (l / q)) p]
  have aO : p * (l % q) < 18446744073709551616 := by rw [← I2]; exact Nat.mul_lt_mul_of_pos_left (Nat.mod_lt _ Qo) adK
  have cz : (l * p) % 18446744073709551616 = p * (l % q) := by rw [aG, Nat.mul_add_mod, Nat.mod_eq_of_lt aO]
  have eX : (h * 18446744073709551616 + l) * p = h * p * 18446744073709551616 + l * p := by rw [kx, Nat.mul_right_comm]
  rw [eX] at ab;refine ⟨by omega, hd, by omega, ?_⟩;rw [eX, cz, kx];omega
theorem IM (h l k : Nat) (h1 : h * 2 ^ k < 18446744073709551616) (h2 : l < 2 ^ k) (aq : h * 2 ^ k + l < 18446744073709551616) :
    bits .or .u64 ((h * 2 ^ k : Nat) : Int) (l : Int) = ((h * 2 ^ k + l : Nat) : Int) := by
  rw [bits_or_u64_nat _ _ h1 (by omega), Nat.mul_comm h, ← Nat.two_pow_add_eq_or_of_lt h2]
theorem Q9 (h l k : Int) (va : 0 ≤ h) (tq : 0 ≤ l ∧ l < 18446744073709551616) (KX : 0 ≤ k ∧ k < 64) (ab : (h * 18446744073709551616 + l) * 2 ^ k.toNat < 340282366920938463463374607431768211456) :
    ∃ H, bits .or .u64 (IntKind.u64.wrap (h * 2 ^ k.toNat)) (l / 2 ^ (64 - k).toNat) = H ∧ (0 ≤ H ∧ H < 18446744073709551616) ∧ (h * 18446744073709551616 + l) * 2 ^ k.toNat = H * 18446744073709551616 + IntKind.u64.wrap (l * 2 ^ k.toNat) := by
  obtain ⟨a, rfl⟩ := mW va;obtain ⟨b, rfl⟩ := mW tq.1;obtain ⟨c, rfl⟩ := mW KX.1;have F5 : c < 64 := by omega
  rw [show (64 - (c : Int)).toNat = 64 - c by omega, kW] at *
  have du : (a * 18446744073709551616 + b) * 2 ^ c < 340282366920938463463374607431768211456 := by
    have e : ((a : Int) * 18446744073709551616 + b) * 2 ^ c = (((a * 18446744073709551616 + b) * 2 ^ c : Nat) : Int) := by simp
    rw [e] at ab;omega
  obtain ⟨s1, s2, bY, b3⟩ := ae2 a b c (by omega) F5 du
  have aP : IntKind.u64.wrap ((a : Int) * 2 ^ c) = ((a * 2 ^ c : Nat) : Int) := by
    rw [show (a : Int) * 2 ^ c = ((a * 2 ^ c : Nat) : Int) by simp, IntKind.wrap_u64];omega
  have w2 : (b : Int) / 2 ^ (64 - c) = ((b / 2 ^ (64 - c) : Nat) : Int) := by simp
  have w3 : IntKind.u64.wrap ((b : Int) * 2 ^ c) = ((b * 2 ^ c % 18446744073709551616 : Nat) : Int) := by
    rw [show (b : Int) * 2 ^ c = ((b * 2 ^ c : Nat) : Int) by simp, IntKind.wrap_u64];omega
  refine ⟨_, rfl, ?_, ?_⟩
  · rw [aP, w2, IM _ _ _ s1 s2 bY]
    omega
  · rw [aP, w2, IM _ _ _ s1 s2 bY, w3]
    rw [show ((a : Int) * 18446744073709551616 + b) * 2 ^ c = (((a * 18446744073709551616 + b) * 2 ^ c : Nat) : Int) by simp, b3];omega
theorem ae1 (h l k : Int) (va : 0 ≤ h) (tq : 0 ≤ l) (KX : 64 ≤ k) (ab : (h * 18446744073709551616 + l) * 2 ^ k.toNat < 340282366920938463463374607431768211456) :
    (0 ≤ IntKind.u64.wrap (l * 2 ^ (k - 64).toNat) ∧ IntKind.u64.wrap (l * 2 ^ (k - 64).toNat) < 18446744073709551616) ∧ (h * 18446744073709551616 + l) * 2 ^ k.toNat = IntKind.u64.wrap (l * 2 ^ (k - 64).toNat) * 18446744073709551616 + 0 := by
  obtain ⟨a, rfl⟩ := mW va;obtain ⟨b, rfl⟩ := mW tq;obtain ⟨c, rfl⟩ : ∃ c : Nat, k = c + 64 := ⟨(k - 64).toNat, by omega⟩;rw [show ((c : Int) + 64 - 64).toNat = c by omega, show ((c : Int) + 64).toNat = c + 64 by omega] at *
  have e : ((a : Int) * 18446744073709551616 + b) * 2 ^ (c + 64) = (((a * 18446744073709551616 + b) * 2 ^ c * 18446744073709551616 : Nat) : Int) := by
    rw [Int.pow_add, ← lU];simp
  rw [e] at ab ⊢;rw [show (b : Int) * 2 ^ c = ((b * 2 ^ c : Nat) : Int) by simp, IntKind.wrap_u64];have hp : 0 < 2 ^ c := Nat.two_pow_pos c
  have aL : a = 0 := by
    rcases vW a with h | h
    · exact h
    · exfalso
      have h1 : 18446744073709551616 * 1 ≤ (a * 18446744073709551616 + b) * 2 ^ c := Nat.mul_le_mul (by omega) hp;omega
  subst aL;rw [Nat.zero_mul, jr] at *;omega
end Go.Proofs.YtpochbhajmbfdaaGreat
namespace Go.Proofs.YtpochbhajmbfdaaGreat
open Go.RowKit
def SZ (n : Int) (w : World) (e : Ending) (w' : World) : Prop := ∃ H L, e = .returned (.tuple #[.int .u64 H, .int .u64 L]) ∧ cR H L n ∧ w = w'
theorem abj {x y : Nat} (aa : x < 18446744073709551616) (ag : y < 18446744073709551616) : x * y < 18446744073709551616 * 18446744073709551616 := Nat.mul_lt_mul'' aa ag
theorem xF (x y : Int) (w : World) (aa : 0 ≤ x ∧ x < 18446744073709551616) (ag : 0 ≤ y ∧ y < 18446744073709551616) :
    Calls aj 258 #[.int .u64 x, .int .u64 y] w (SZ (x * y) w) := by
  obtain ⟨X, rfl⟩ := mW aa.1;obtain ⟨Y, rfl⟩ := mW ag.1;refine (Tryz.bits_Mul64 X Y (by omega) (by omega) w).mono ?_;rintro e w' ⟨rfl, rfl⟩;have ao := abj (x := X) (y := Y) (by omega) (by omega);refine ⟨_, _, rfl, ?_, rfl⟩;rw [show (X : Int) * (Y : Int) = ((X * Y : Nat) : Int) from (Int.natCast_mul X Y).symm];generalize X * Y = p at *;unfold cR;omega
def lb (n : Int) : Bool := decide (n < 340282366920938463463374607431768211456)
def wF (n : Int) (w : World) (e : Ending) (w' : World) : Prop := ∃ H L, e = .returned (.tuple #[.agg #[.int .u64 H, .int .u64 L], .bool (lb n)]) ∧ cR H L (if lb n then n else 0) ∧ Below w.heap.size w w'
theorem QT {n H L : Int} {w w' : World} (h : lb n = true) (k : cR H L n) (b : Below w.heap.size w w') : wF n w (.returned (.tuple #[.agg #[.int .u64 H, .int .u64 L], .bool true])) w' := ⟨H, L, by rw [h], by rw [h]; exact k, b⟩
theorem AJ {n : Int} {w w' : World} (h : lb n = false) (b : Below w.heap.size w w') : wF n w (.returned (.tuple #[.agg #[.int .u64 0, .int .u64 0], .bool false])) w' := ⟨0, 0, by rw [h], by rw [h]; exact zT, b⟩
theorem Ux {h1 l1 n h2 l2 m : Int} (H1 : cR h1 l1 n) (cm : cR h2 l2 m) (bC : h1 ≠ 0) (cf : h2 ≠ 0) : lb (n * m) = false := by
  obtain ⟨b1, b2, aG⟩ := H1;obtain ⟨eF, dV, aO⟩ := cm;have aE : 18446744073709551616 ≤ n := by omega
  have hm : 18446744073709551616 ≤ m := by omega
  have h := Int.mul_le_mul aE hm (by omega) (by omega);unfold lb;rw [mX];omega
theorem abk (h1 l1 n h2 l2 m : Int) (w : World) (H1 : cR h1 l1 n) (cm : cR h2 l2 m) (bC : h1 ≠ 0) (cf : h2 ≠ 0) :
    Calls aj 278 #[.agg #[.int .u64 h1, .int .u64 l1], .agg #[.int .u64 h2, .int .u64 l2]] w (wF (n * m) w) := by
  have aE := Lib.hid (Ux H1 cm bC cf);have b1 : (h1 != 0) = true := by simpa using bC
  have b2 : (h2 != 0) = true := by simpa using cf
  clear bC cf
  go_enter Tryz.func278, Tryz.ntmps278
  go_wp2
  refine bodyPost_ret (v := .tuple #[.agg #[.int .u64 0, .int .u64 0], .bool false]) (by simp only [results, Tryz.results278]; go_simp) rfl (AJ aE.out ?_);(repeat first | with_reducible exact Below.refl _ _ | with_reducible refine c6 ?_ _)
theorem NJ {a b : Int} (h : cR a b 0) : a = 0 ∧ b = 0 := by
  obtain ⟨b1, b2, e⟩ := h;omega
theorem OP {o u q hi lo p N : Int} (A : cR o u q) (C : cR hi lo p) (e : N = q * 18446744073709551616 + p) :
    (¬ o = 0 → lb N = false) ∧ (o = 0 → ((hi + u) / 18446744073709551616 != 0) = true → lb N = false) ∧
    (o = 0 → ((hi + u) / 18446744073709551616 != 0) = false → lb N = true ∧ cR ((hi + u) % 18446744073709551616) lo N) := by (try (unfold lb cR at *)); grind
theorem Pz (x : Int) (h : 0 ≤ x ∧ x < 18446744073709551616) : bits .or .u64 0 x = x ∧ bits .or .u64 x 0 = x := by
  obtain ⟨X, rfl⟩ := mW h.1;have h1 := bits_or_u64_nat 0 X (by omega) (by omega);have h2 := bits_or_u64_nat X 0 (by omega) (by omega);rw [Nat.zero_or] at h1;rw [Nat.or_zero] at h2;exact ⟨h1, h2⟩
theorem abl (l1 n h2 l2 m : Int) (w : World) (H1 : cR 0 l1 n) (cm : cR h2 l2 m) :
    Calls aj 278 #[.agg #[.int .u64 0, .int .u64 l1], .agg #[.int .u64 h2, .int .u64 l2]] w (wF (n * m) w) := by
  have kf := H1.1; have z2 := H1.2.1; have z3 := cm.1; have z4 := cm.2.1
  go_enter Tryz.func278, Tryz.ntmps278
  go_wp2_with fail
  refine (xF _ _ _ kf z4).mono ?_;rintro e aP ⟨ab2, E6, rfl, dO, rfl⟩;rw [Int.zero_mul] at dO;obtain ⟨rfl, rfl⟩ := NJ dO;clear dO
  go_wp2_with fail
  refine (xF _ _ _ z2 z3).mono ?_;rintro e aP ⟨ab3, E7, rfl, eY, rfl⟩
  go_wp2_with fail
  refine (xF _ _ _ z2 z4).mono ?_;rintro e aP ⟨hi, lo, rfl, hC, rfl⟩;have o1 := (Pz E7 eY.2.1).1;have aG := fun w => BW hi E7 0 hC.1.1 eY.2.1.1 (by omega) (by omega) w;rw [Int.add_zero] at aG
  have sq := OP (N := n * m) eY hC (by
    rw [H1.2.2, cm.2.2, Int.zero_mul, Int.zero_add, Int.mul_add, ← lU])
  obtain ⟨q1, q2, cj⟩ := sq;have nh := Lib.hid q1; have ni := Lib.hid q2; have FB := Lib.hid cj;clear q1 q2 cj kf z2 z3 z4
  go_wp2
  · refine bodyPost_ret (v := .tuple #[.agg #[.int .u64 0, .int .u64 0], .bool false]) (by simp only [results, Tryz.results278]; go_simp) rfl (AJ (nh.out ‹_›) ?_)
    (repeat first | with_reducible exact Below.refl _ _ | with_reducible refine c6 ?_ _)
  · refine bodyPost_ret (v := .tuple #[.agg #[.int .u64 0, .int .u64 0], .bool false]) (by simp only [results, Tryz.results278]; go_simp) rfl (AJ (ni.out ‹_› ‹_›) ?_)
    (repeat first | with_reducible exact Below.refl _ _ | with_reducible refine c6 ?_ _)
  · have ag := FB.out ‹_› ‹_›
    refine bodyPost_ret (v := .tuple #[.agg #[.int .u64 ((hi + E7) % 18446744073709551616), .int .u64 lo], .bool true]) (by simp only [results, Tryz.results278]; go_simp) rfl (QT ag.1 ag.2 ?_);(repeat first | with_reducible exact Below.refl _ _ | with_reducible refine c6 ?_ _)
theorem abm (h1 l1 n l2 m : Int) (w : World) (H1 : cR h1 l1 n) (cm : cR 0 l2 m) (k : h1 ≠ 0) :
    Calls aj 278 #[.agg #[.int .u64 h1, .int .u64 l1], .agg #[.int .u64 0, .int .u64 l2]] w (wF (n * m) w) := by
  have kf := H1.1; have z2 := H1.2.1; have z3 := cm.1; have z4 := cm.2.1;have aag : (h1 != 0) = true := by simpa using k
  clear k
  go_enter Tryz.func278, Tryz.ntmps278
  go_wp2_with fail
  refine (xF _ _ _ kf z4).mono ?_;rintro e aP ⟨ab2, E6, rfl, dO, rfl⟩
  go_wp2_with fail
  refine (xF _ _ _ z2 z3).mono ?_;rintro e aP ⟨ab3, E7, rfl, eY, rfl⟩;rw [Int.mul_zero] at eY;obtain ⟨rfl, rfl⟩ := NJ eY;clear eY
  go_wp2_with fail
  refine (xF _ _ _ z2 z4).mono ?_;rintro e aP ⟨hi, lo, rfl, hC, rfl⟩;have o1 := (Pz E6 dO.2.1).2;have aG := fun w => BW hi E6 0 hC.1.1 dO.2.1.1 (by omega) (by omega) w;rw [Int.add_zero] at aG
  have sq := OP (N := n * m) dO hC (by
    rw [H1.2.2, cm.2.2, Int.zero_mul, Int.zero_add, Int.add_mul, Int.mul_right_comm])
  obtain ⟨q1, q2, cj⟩ := sq;have nh := Lib.hid q1; have ni := Lib.hid q2; have FB := Lib.hid cj;clear q1 q2 cj kf z2 z3 z4
  go_wp2
  · refine bodyPost_ret (v := .tuple #[.agg #[.int .u64 0, .int .u64 0], .bool false]) (by simp only [results, Tryz.results278]; go_simp) rfl (AJ (nh.out ‹_›) ?_)
    (repeat first | with_reducible exact Below.refl _ _ | with_reducible refine c6 ?_ _)
  · refine bodyPost_ret (v := .tuple #[.agg #[.int .u64 0, .int .u64 0], .bool false]) (by simp only [results, Tryz.results278]; go_simp) rfl (AJ (ni.out ‹_› ‹_›) ?_)
    (repeat first | with_reducible exact Below.refl _ _ | with_reducible refine c6 ?_ _)
  · have ag := FB.out ‹_› ‹_›
    refine bodyPost_ret (v := .tuple #[.agg #[.int .u64 ((hi + E6) % 18446744073709551616), .int .u64 lo], .bool true]) (by simp only [results, Tryz.results278]; go_simp) rfl (QT ag.1 ag.2 ?_);(repeat first | with_reducible exact Below.refl _ _ | with_reducible refine c6 ?_ _)
theorem OQ (h1 l1 n h2 l2 m : Int) (w : World) (H1 : cR h1 l1 n) (cm : cR h2 l2 m) :
    Calls aj 278 #[.agg #[.int .u64 h1, .int .u64 l1], .agg #[.int .u64 h2, .int .u64 l2]] w (wF (n * m) w) := by
  by_cases bC : h1 = 0
  · subst bC; exact abl l1 n h2 l2 m w H1 cm
  · by_cases cf : h2 = 0
    · subst cf; exact abm h1 l1 n l2 m w H1 cm bC
    · exact abk h1 l1 n h2 l2 m w H1 cm bC cf
def SX (n : Int) (w : World) (e : Ending) (w' : World) : Prop := ∃ k : Nat, e = .returned (.int .i64 k) ∧ qz n.toNat k ∧ Below w.heap.size w w'
theorem Uu (h : Int) (b : 0 ≤ h ∧ h < 18446744073709551616) : Lib.bitLen h.toNat ≤ 64 := Lib.bitLen_le _ 64 (dU _) (by rw [rD]; omega)
theorem aaE (h1 l1 n : Int) (w : World) (H1 : cR h1 l1 n) :
    Calls aj 291 #[.agg #[.int .u64 h1, .int .u64 l1]] w (SX n w) := by
  obtain ⟨b1, b2, e⟩ := H1;have q1 := Uu h1 b1
  by_cases k : h1 = 0
  · subst k
    have ao : Hid (qz n.toNat (Lib.bitLen l1.toNat)) := by
      rw [e, show (0 * 18446744073709551616 + l1).toNat = l1.toNat by omega];exact Oc _ (by omega)
    clear e
    go_enter Tryz.func291, Tryz.ntmps291
    go_wp2_with (go_at_call 300; refine (Tryz.bits_Len64 _ _ (by omega) (by omega)).mono ?_; rintro e w' ⟨rfl, rfl⟩)
    go_ret
    exact ⟨_, rfl, ao.out, by (repeat first | with_reducible exact Below.refl _ _ | with_reducible refine c6 ?_ _)⟩
  · have ao : Hid (qz n.toNat (64 + Lib.bitLen h1.toNat)) := by
      rw [e, show (h1 * 18446744073709551616 + l1).toNat = h1.toNat * 18446744073709551616 + l1.toNat by omega];exact (aaF _ _ (by omega) (by omega) (by omega)).1
    have aag : (h1 != 0) = true := by simpa using k
    clear e k
    go_enter Tryz.func291, Tryz.ntmps291
    go_wp2_with (go_at_call 300; refine (Tryz.bits_Len64 _ _ (by omega) (by omega)).mono ?_; rintro e w' ⟨rfl, rfl⟩)
    go_ret
    exact ⟨_, by simp, ao.out, by (repeat first | with_reducible exact Below.refl _ _ | with_reducible refine c6 ?_ _)⟩
theorem aeZ (h1 l1 n k : Int) (w : World) (H1 : cR h1 l1 n) (jj : 64 ≤ k) (bC : k < 128) (ab : n * 2 ^ k.toNat < 340282366920938463463374607431768211456) :
    Calls aj 292 #[.agg #[.int .u64 h1, .int .u64 l1], .int .u64 k] w (aX (n * 2 ^ k.toNat) w) := by
  obtain ⟨b1, b2, e⟩ := H1;rw [e] at ab ⊢;have rS := Lib.hid (ae1 h1 l1 k b1.1 b2.1 jj ab);clear e ab b1 b2
  go_enter Tryz.func292, Tryz.ntmps292
  go_wp2
  refine bodyPost_ret (v := .agg #[.int .u64 (IntKind.u64.wrap (l1 * 2 ^ (k - 64).toNat)), .int .u64 0]) (by simp only [results, Tryz.results292]; go_simp) rfl ⟨_, _, rfl, ⟨rS.out.1, by omega, rS.out.2⟩, ?_⟩;(repeat first | with_reducible exact Below.refl _ _ | with_reducible refine c6 ?_ _)
theorem ae0 (h1 l1 n k : Int) (w : World) (H1 : cR h1 l1 n) (jj : 0 ≤ k) (bC : k < 64) (ab : n * 2 ^ k.toNat < 340282366920938463463374607431768211456) :
    Calls aj 292 #[.agg #[.int .u64 h1, .int .u64 l1], .int .u64 k] w (aX (n * 2 ^ k.toNat) w) := by
  obtain ⟨b1, b2, e⟩ := H1;rw [e] at ab ⊢;obtain ⟨H, jh, nv, Nt⟩ := Q9 h1 l1 k b1.1 b2 ⟨jj, bC⟩ ab;have Sw := Lib.hid jh;have Sx := Lib.hid Nt;clear e ab b1 b2 jh Nt
  go_enter Tryz.func292, Tryz.ntmps292
  go_wp2
  refine bodyPost_ret (v := .agg #[.int .u64 (bits BinOp.or IntKind.u64 (IntKind.u64.wrap (h1 * 2 ^ k.toNat)) (l1 / 2 ^ (64 - k).toNat)), .int .u64 (IntKind.u64.wrap (l1 * 2 ^ k.toNat))]) (by simp only [results, Tryz.results292]; go_simp) rfl ⟨_, _, rfl, ?_, ?_⟩
  · rw [Sw.out]
    exact ⟨nv, wj _, Sx.out⟩
  · (repeat first | with_reducible exact Below.refl _ _ | with_reducible refine c6 ?_ _)
theorem Q8 (h1 l1 n k : Int) (w : World) (H1 : cR h1 l1 n) (jj : 0 ≤ k) (bC : k < 128) (ab : n * 2 ^ k.toNat < 340282366920938463463374607431768211456) :
    Calls aj 292 #[.agg #[.int .u64 h1, .int .u64 l1], .int .u64 k] w (aX (n * 2 ^ k.toNat) w) := by
  by_cases h : k < 64
  · exact ae0 h1 l1 n k w H1 jj h ab
  · exact aeZ h1 l1 n k w H1 (by omega) bC ab
end Go.Proofs.YtpochbhajmbfdaaGreat
namespace Go.Proofs.YtpochbhajmbfdaaGreat
open Go.RowKit
theorem sign_mul {h1 l1 n h2 l2 m : Int} (H1 : bx h1 l1 n) (cm : bx h2 l2 m) : (if (!decide (h1 < 0) == decide (h2 < 0)) = true then -((n.natAbs : Int) * (m.natAbs : Int)) else (n.natAbs : Int) * (m.natAbs : Int)) = n * m := by
  have bC := H1.neg; have cf := cm.neg;rcases qi n 0 with a | a <;> rcases qi m 0 with b | b
  · obtain ⟨x, rfl⟩ : ∃ x : Nat, n = -(x : Int) := ⟨n.natAbs, by omega⟩
    obtain ⟨y, rfl⟩ : ∃ y : Nat, m = -(y : Int) := ⟨m.natAbs, by omega⟩;simp [bC.2 a, cf.2 b, Int.neg_mul, Int.mul_neg]
  · obtain ⟨x, rfl⟩ : ∃ x : Nat, n = -(x : Int) := ⟨n.natAbs, by omega⟩
    obtain ⟨y, rfl⟩ : ∃ y : Nat, m = (y : Int) := ⟨m.natAbs, by omega⟩;have : ¬ h2 < 0 := by omega
    simp [bC.2 a, this, Int.neg_mul]
  · obtain ⟨x, rfl⟩ : ∃ x : Nat, n = (x : Int) := ⟨n.natAbs, by omega⟩
    obtain ⟨y, rfl⟩ : ∃ y : Nat, m = -(y : Int) := ⟨m.natAbs, by omega⟩;have : ¬ h1 < 0 := by omega
    simp [cf.2 b, this, Int.mul_neg]
  · obtain ⟨x, rfl⟩ : ∃ x : Nat, n = (x : Int) := ⟨n.natAbs, by omega⟩
    obtain ⟨y, rfl⟩ : ∃ y : Nat, m = (y : Int) := ⟨m.natAbs, by omega⟩;have t1 : ¬ h1 < 0 := by omega
    have t2 : ¬ h2 < 0 := by omega
    simp [t1, t2]
theorem ae7 {h1 l1 n h2 l2 m : Int} (H1 : bx h1 l1 n) (cm : bx h2 l2 m) (h : lb (n.natAbs * m.natAbs) = false) : fits (n * m) = false := by
  have e : (n.natAbs : Int) * m.natAbs = ((n * m).natAbs : Int) := by rw [Int.natAbs_mul, Int.natCast_mul]
  rw [e] at h;unfold lb at h;unfold fits;rw [mX] at *;omega
theorem afb {h1 l1 n h2 l2 m ph pl P : Int} (w : World) (H1 : bx h1 l1 n) (cm : bx h2 l2 m) (e : Hid (P = n.natAbs * m.natAbs)) (hp : cR ph pl P) :
    Calls aj 280 #[.agg #[.int .u64 ph, .int .u64 pl], .bool (!decide (h1 < 0) == decide (h2 < 0))] w (mA (n * m) w) := by
  rw [← sign_mul H1 cm, ← e.out];exact Rd ph pl P _ w hp
def SM (w : World) (N : Int) (a b c d : Value) (qo we : Value) (fH : World) : Prop :=
  ∃ (g : Nat) (ph pl : Int), qo = .pointer (some ⟨g, 0, none⟩) ∧ we = .bool (lb N) ∧ w.heap.size + 3 ≤ g ∧ cR ph pl (if lb N then N else 0) ∧
    ah fH g (.int .u64 ph) (.int .u64 pl) ∧ ah fH w.heap.size a b ∧ ah fH (w.heap.size + 1) c d ∧ ah fH (w.heap.size + 1 + 1) (.int .i64 0) (.int .u64 0) ∧ g < fH.heap.size ∧ Below w.heap.size w fH
theorem SN (h1 l1 n h2 l2 m : Int) (w : World) (H1 : bx h1 l1 n) (cm : bx h2 l2 m) :
    Calls aj 246 #[.agg #[.int .i64 h1, .int .u64 l1], .agg #[.int .i64 h2, .int .u64 l2]] w (mA (n * m) w) := by
  have abY : ¬ w.heap.size + 1 + 1 + 1 = w.heap.size := by omega
  have abX : ¬ w.heap.size + 1 + 1 = w.heap.size := by omega
  go_enter Tryz.func246, Tryz.ntmps246
  go_upto_region 1 with fail
  go_cut [6, 7] (fun qo we fH => SM w (n.natAbs * m.natAbs) (.int .i64 h1) (.int .u64 l1) (.int .i64 h2) (.int .u64 l2) qo we fH)
  case first =>
    have bp : ah (((w.alloc (.cells #[.int .i64 h1, .int .u64 l1] 159)).alloc (.cells #[.int .i64 h2, .int .u64 l2] 159)).alloc (.cells #[.int .i64 0, .int .u64 0] 159)) w.heap.size (.int .i64 h1) (.int .u64 l1) := by (repeat first | focus ((with_reducible refine ah.new ?_); simp; done) | with_reducible refine ah.alloc ?_ _)
    go_region_held3 (fun w' => (w'.cell? ⟨w.heap.size, 0, none⟩ = some (.int .i64 h1) ∧ w'.cell? ⟨w.heap.size, 1, none⟩ = some (.int .u64 l1)) ∧ (w'.cell? ⟨w.heap.size + 1, 0, none⟩ = some (.int .i64 h2) ∧ w'.cell? ⟨w.heap.size + 1, 1, none⟩ = some (.int .u64 l2))) (go_keep)
      (first
        | (go_at_call 279; ((with_reducible refine (AV h1 l1 n _ H1).mono ?_); rintro e aP ⟨AU, afd, rfl, oR, bE⟩; have gy : ah aP (w.heap.size) (.int .i64 h1) (.int .u64 l1) := (by (repeat first | with_reducible assumption | with_reducible refine ah.alloc ?_ _ | with_reducible refine ah.drew ?_ | with_reducible refine ah.call ?_ bE)); obtain ⟨⟨l6, l7⟩, l9, ma⟩ := id gy; have jM : ah aP (w.heap.size + 1) (.int .i64 h2) (.int .u64 l2) := (by (repeat first | focus ((with_reducible refine ah.new ?_); simp; done) | with_reducible refine ah.alloc ?_ _ | with_reducible refine ah.drew ?_ | with_reducible refine ah.call ?_ bE)); obtain ⟨⟨pD, pI⟩, pN, pP⟩ := id jM; have pr : ah aP (w.heap.size + 1 + 1) (.int .i64 0) (.int .u64 0) := (by (repeat first | focus ((with_reducible refine ah.new ?_); simp; done) | with_reducible refine ah.alloc ?_ _ | with_reducible refine ah.drew ?_ | with_reducible refine ah.call ?_ bE)); obtain ⟨⟨wO, wT⟩, wZ, w6⟩ := id pr; (try ((refine lC (p := ah aP (w.heap.size + 1 + 1 + 1) (.int .u64 0) (.int .u64 0)) ?_ ?_); (repeat first | focus ((with_reducible refine ah.new ?_); simp; done) | with_reducible refine ah.alloc ?_ _ | with_reducible refine ah.drew ?_ | with_reducible refine ah.call ?_ bE); intro Bh; obtain ⟨⟨agu, agN⟩, ahe, ahs⟩ := id Bh; have ain := ah.lt Bh; have aiM := iP (ah.lt Bh); have aiD := iQ (ah.lt Bh))); have mP := Below.size bE; (try simp at mP); have um : ¬ aP.heap.size = w.heap.size := (by omega); have vP : ¬ aP.heap.size = w.heap.size + 1 := (by omega); have Ai : ¬ aP.heap.size = w.heap.size + 1 + 1 := (by omega); have tF : ¬ w.heap.size = aP.heap.size := (by omega); have vf : ¬ w.heap.size + 1 = aP.heap.size := (by omega); have yT : ¬ w.heap.size + 1 + 1 = aP.heap.size := (by omega); have uj : w.heap.size < aP.heap.size := (by omega); have vM : w.heap.size + 1 < aP.heap.size := (by omega); have Ac : w.heap.size + 1 + 1 < aP.heap.size := (by omega)))
        | (go_at_call 279; ((with_reducible refine (AV h2 l2 m _ cm).mono ?_); rintro e w2 ⟨ER, afe, rfl, zC, b4⟩; have ju : ah w2 (w.heap.size) (.int .i64 h1) (.int .u64 l1) := (by (repeat first | with_reducible assumption | with_reducible refine ah.alloc ?_ _ | with_reducible refine ah.call ?_ b4)); obtain ⟨⟨pE, pJ⟩, pO, pQ⟩ := id ju; have lX : ah w2 (w.heap.size + 1) (.int .i64 h2) (.int .u64 l2) := (by (repeat first | with_reducible assumption | with_reducible refine ah.alloc ?_ _ | with_reducible refine ah.call ?_ b4)); obtain ⟨⟨tr, tB⟩, tJ, tO⟩ := id lX; have lY : ah w2 (w.heap.size + 1 + 1) (.int .i64 0) (.int .u64 0) := (by (repeat first | with_reducible assumption | with_reducible refine ah.alloc ?_ _ | with_reducible refine ah.call ?_ b4)); obtain ⟨⟨tu, tC⟩, tK, tP⟩ := id lY; (try ((refine lC (p := ah w2 (w.heap.size + 1 + 1 + 1) (.int .u64 0) (.int .u64 0)) ?_ ?_); (repeat first | with_reducible assumption | with_reducible refine ah.alloc ?_ _ | with_reducible refine ah.drew ?_ | with_reducible refine ah.call ?_ b4 | with_reducible refine ah.call ?_ bE); intro rL; obtain ⟨⟨UL, Vt⟩, Wu, WZ⟩ := id rL; have aan := ah.lt rL; have abv := iP (ah.lt rL); have aaZ := iQ (ah.lt rL))); (try ((refine lC (p := ah w2 (aP.heap.size) (.int .u64 0) (.int .u64 0)) ?_ ?_); (repeat first | focus ((with_reducible refine ah.new ?_); simp; done) | with_reducible refine ah.alloc ?_ _ | with_reducible refine ah.drew ?_ | with_reducible refine ah.call ?_ b4 | with_reducible refine ah.call ?_ bE); intro rM; obtain ⟨⟨UM, Vu⟩, Wv, W0⟩ := id rM; have aao := ah.lt rM; have abw := iP (ah.lt rM); have aa0 := iQ (ah.lt rM))); have n5 := Below.size b4; (try simp at n5); have xG : ¬ w2.heap.size = w.heap.size := (by omega); have Aj : ¬ w2.heap.size = w.heap.size + 1 := (by omega); have D1 : ¬ w2.heap.size = w.heap.size + 1 + 1 := (by omega); have wW : ¬ w.heap.size = w2.heap.size := (by omega); have yU : ¬ w.heap.size + 1 = w2.heap.size := (by omega); have Cw : ¬ w.heap.size + 1 + 1 = w2.heap.size := (by omega); have xA : w.heap.size < w2.heap.size := (by omega); have Ad : w.heap.size + 1 < w2.heap.size := (by omega); have DO : w.heap.size + 1 + 1 < w2.heap.size := (by omega)))
        | (go_at_call 278; ((with_reducible refine (OQ _ _ _ _ _ _ _ oR zC).mono ?_); rintro e w3 ⟨ph, pl, rfl, hp, c8⟩; have lZ : ah w3 (w.heap.size) (.int .i64 h1) (.int .u64 l1) := (by (repeat first | with_reducible assumption | with_reducible refine ah.alloc ?_ _ | with_reducible refine ah.call ?_ c8)); obtain ⟨⟨wP, wU⟩, w0, w7⟩ := id lZ; have rN : ah w3 (w.heap.size + 1) (.int .i64 h2) (.int .u64 l2) := (by (repeat first | with_reducible assumption | with_reducible refine ah.alloc ?_ _ | with_reducible refine ah.call ?_ c8)); obtain ⟨⟨Cg, Cs⟩, CH, CQ⟩ := id rN; have wx : ah w3 (w.heap.size + 1 + 1) (.int .i64 0) (.int .u64 0) := (by (repeat first | with_reducible assumption | with_reducible refine ah.alloc ?_ _ | with_reducible refine ah.call ?_ c8)); obtain ⟨⟨Ga, Gi⟩, Gx, GJ⟩ := id wx; (try ((refine lC (p := ah w3 (w.heap.size + 1 + 1 + 1) (.int .u64 0) (.int .u64 0)) ?_ ?_); (repeat first | with_reducible assumption | with_reducible refine ah.alloc ?_ _ | with_reducible refine ah.drew ?_ | with_reducible refine ah.call ?_ c8 | with_reducible refine ah.call ?_ b4 | with_reducible refine ah.call ?_ bE); intro rO; obtain ⟨⟨UO, Vw⟩, Wx, W2⟩ := id rO; have aap := ah.lt rO; have abx := iP (ah.lt rO); have aa1 := iQ (ah.lt rO))); (try ((refine lC (p := ah w3 (aP.heap.size) (.int .u64 0) (.int .u64 0)) ?_ ?_); (repeat first | with_reducible assumption | with_reducible refine ah.alloc ?_ _ | with_reducible refine ah.drew ?_ | with_reducible refine ah.call ?_ c8 | with_reducible refine ah.call ?_ b4 | with_reducible refine ah.call ?_ bE); intro rP; obtain ⟨⟨UP, Vx⟩, Wy, W3⟩ := id rP; have aaq := ah.lt rP; have aby := iP (ah.lt rP); have aa2 := iQ (ah.lt rP))); (try ((refine lC (p := ah w3 (w2.heap.size) (.int .u64 0) (.int .u64 0)) ?_ ?_); (repeat first | focus ((with_reducible refine ah.new ?_); simp; done) | with_reducible refine ah.alloc ?_ _ | with_reducible refine ah.drew ?_ | with_reducible refine ah.call ?_ c8 | with_reducible refine ah.call ?_ b4 | with_reducible refine ah.call ?_ bE); intro rQ; obtain ⟨⟨UQ, Vy⟩, Wz, W4⟩ := id rQ; have aar := ah.lt rQ; have abz := iP (ah.lt rQ); have aa3 := iQ (ah.lt rQ))); have sC := Below.size c8; (try simp at sC); have Ak : ¬ w3.heap.size = w.heap.size := (by omega); have D2 : ¬ w3.heap.size = w.heap.size + 1 := (by omega); have II : ¬ w3.heap.size = w.heap.size + 1 + 1 := (by omega); have yV : ¬ w.heap.size = w3.heap.size := (by omega); have Cx : ¬ w.heap.size + 1 = w3.heap.size := (by omega); have Gs : ¬ w.heap.size + 1 + 1 = w3.heap.size := (by omega); have Ae : w.heap.size < w3.heap.size := (by omega); have DP : w.heap.size + 1 < w3.heap.size := (by omega); have Il : w.heap.size + 1 + 1 < w3.heap.size := (by omega))))
    all_goals
      go_wp2_with fail
      go_meet
      refine ⟨_, ph, pl, rfl, rfl, by omega, hp, ?_, ?_, ?_, ?_, ?_, ?_⟩
      · (repeat first | focus ((with_reducible refine ah.new ?_); simp; done) | with_reducible refine ah.put ?_ | focus ((with_reducible apply fB.of); with_reducible assumption))
      · (repeat first | with_reducible assumption | with_reducible refine ah.alloc ?_ _ | focus ((with_reducible refine ah.set ?_ _ ?_); rotate_left; omega))
      · (repeat first | with_reducible assumption | with_reducible refine ah.alloc ?_ _ | focus ((with_reducible refine ah.set ?_ _ ?_); rotate_left; omega))
      · (repeat first | with_reducible assumption | with_reducible refine ah.alloc ?_ _ | focus ((with_reducible refine ah.set ?_ _ ?_); rotate_left; omega))
      · first | (simp; done) | (simp; omega)
      · (repeat first | with_reducible exact Below.refl _ _ | with_reducible refine c6 ?_ _ | focus ((with_reducible refine eW ?_ _ _ _ ?_); rotate_left; omega) | with_reducible refine Below.drew ?_ | with_reducible refine b6 ?_ c8 | with_reducible refine b6 ?_ b4 | with_reducible refine b6 ?_ bE)
  case rest =>
    obtain ⟨g, ph, pl, rfl, rfl, aw, hp, ⟨q1, q2⟩, ⟨cj, eH⟩, ⟨lR, Ax⟩, ⟨Et, Eu⟩, aZ, ab⟩ := hcut;have ai1 : ¬ g = w.heap.size := by omega
    have ai2 : ¬ g = w.heap.size + 1 := by omega
    have ai3 : ¬ g = w.heap.size + 1 + 1 := by omega
    obtain ⟨adP, adQ⟩ := q1; obtain ⟨I4, I5⟩ := q2; obtain ⟨aja, ajb⟩ := cj; obtain ⟨ajc, ajd⟩ := eH; obtain ⟨aje, ajf⟩ := lR; obtain ⟨ajg, ajh⟩ := Ax; obtain ⟨adT, adU⟩ := Et; obtain ⟨adW, adX⟩ := Eu;have HX : w.heap.size + 1 + 1 < wc.heap.size := by omega
    have M9 := ae7 H1 cm;generalize fp : (n.natAbs : Int) * (m.natAbs : Int) = P at *;have rR := Lib.hid fp.symm;have my := Lib.hid M9;clear fp M9
    by_cases au : lb P = true
    · rw [if_pos au] at hp
      go_wp2_with (go_at_call 280; ((with_reducible refine (afb _ H1 cm rR hp).mono ?_); rintro e fA ⟨jH, jI, rfl, ap, fh⟩; have RV : ah fA (w.heap.size + 1 + 1) (.int .i64 0) (.int .u64 0) := ah.call ⟨⟨adT, adU⟩, adW, adX⟩ fh; obtain ⟨⟨F9, d4⟩, f4, g4⟩ := id RV))
      refine bodyPost_ret (v := .tuple #[.agg #[.int .i64 jH, .int .u64 jI], .bool (fits (n * m))]) (by simp only [results, Tryz.results246]; go_simp) rfl ⟨jH, jI, rfl, ap, ?_⟩;refine eW (eW (b6 ab fh) _ _ _ (by omega)) _ _ _ (by omega)
    · have mc : lb P = false := by simpa using au
      have hm := Lib.hid (my.out mc);clear au
      go_wp2
      refine bodyPost_ret (v := .tuple #[.agg #[.int .i64 0, .int .u64 0], .bool false]) (by simp only [results, Tryz.results246]; go_simp) rfl (v8 hm.out ?_);refine eW (eW ab _ _ _ (by omega)) _ _ _ (by omega)
end Go.Proofs.YtpochbhajmbfdaaGreat
namespace Go.Proofs.YtpochbhajmbfdaaGreat
open Go.RowKit
theorem afJ {n m : Int} (aI : -9223372036854775808 ≤ n) (h1 : n < 9223372036854775808) (jj : -9223372036854775808 ≤ m) (bC : m < 9223372036854775808) : fits (n * m) = true := by
  have a : n.natAbs ≤ 9223372036854775808 := by omega
  have b : m.natAbs ≤ 9223372036854775808 := by omega
  have c := Nat.mul_le_mul a b;rw [← Int.natAbs_mul] at c;unfold fits;rw [c0];omega
theorem Tf (n m : Int) (w : World) (aI : -9223372036854775808 ≤ n) (h1 : n < 9223372036854775808) (jj : -9223372036854775808 ≤ m) (bC : m < 9223372036854775808) :
    Calls aj 222 #[.int .i64 n, .int .i64 m] w (px (n * m) w) := by
  have Sv := Lib.hid (afJ aI h1 jj bC)
  go_enter Tryz.func222, Tryz.ntmps222
  go_wp2_with fail
  refine (rT n _ aI h1).mono ?_;rintro e aP ⟨a1, b1, rfl, aE, bE⟩
  go_wp2_with fail
  refine (rT m _ jj bC).mono ?_;rintro e w2 ⟨a2, b2, rfl, hm, b4⟩
  go_wp2_with fail
  refine (SN _ _ _ _ _ _ _ aE hm).mono ?_;rintro e w3 ⟨a3, eF, rfl, hp, c8⟩;rw [if_pos Sv.out] at hp;have lZ : ah w3 (w.heap.size) (.int .i64 0) (.int .u64 0) := (by (repeat first | focus ((with_reducible refine ah.new ?_); simp; done) | with_reducible refine ah.call ?_ c8 | with_reducible refine ah.call ?_ b4 | with_reducible refine ah.call ?_ bE)); obtain ⟨⟨wP, wU⟩, w0, w7⟩ := id lZ; have mP := Below.size bE; (try simp at mP); have um : ¬ aP.heap.size = w.heap.size := (by omega); have tF : ¬ w.heap.size = aP.heap.size := (by omega); have uj : w.heap.size < aP.heap.size := (by omega); have n5 := Below.size b4; (try simp at n5); have xG : ¬ w2.heap.size = w.heap.size := (by omega); have wW : ¬ w.heap.size = w2.heap.size := (by omega); have xA : w.heap.size < w2.heap.size := (by omega); have sC := Below.size c8; (try simp at sC); have Ak : ¬ w3.heap.size = w.heap.size := (by omega); have yV : ¬ w.heap.size = w3.heap.size := (by omega); have Ae : w.heap.size < w3.heap.size := (by omega)
  go_wp2
  refine bodyPost_ret (v := .agg #[.int .i64 a3, .int .u64 eF]) (by simp only [results, Tryz.results222]; go_simp) rfl ⟨_, _, rfl, hp, ?_⟩;(repeat first | with_reducible exact Below.refl _ _ | with_reducible refine c6 ?_ _ | focus ((with_reducible refine eW ?_ _ _ _ ?_); rotate_left; omega) | with_reducible refine b6 ?_ c8 | with_reducible refine b6 ?_ b4 | with_reducible refine b6 ?_ bE)
theorem Tr (n : Int) (k : Nat) : ((n * 2 ^ k).natAbs : Int) = (n.natAbs : Int) * 2 ^ k := by
  rw [Int.natAbs_mul, Int.natAbs_pow, Int.natCast_mul];simp
theorem ae3 {n k : Int} {len : Nat} (h : qz n.natAbs len) (aI : n ≠ 0) (af : 0 ≤ k) (az : 128 - (len : Int) < k) : fits (n * 2 ^ k.toNat) = false := by
  have h1 := aaH h (by omega) (show 128 < k.toNat + len by omega);have h2 := Tr n k.toNat
  rw [show (n.natAbs : Int) * 2 ^ k.toNat = ((n.natAbs * 2 ^ k.toNat : Nat) : Int) by simp] at h2;unfold fits;rw [mX];omega
theorem ae4 {n k : Int} {len : Nat} (h : qz n.natAbs len) (aI : n ≠ 0) (af : 0 ≤ k) (az : k ≤ 128 - (len : Int)) : k < 128 ∧ (n.natAbs : Int) * 2 ^ k.toNat < 340282366920938463463374607431768211456 := by
  have h1 := aaI h (show k.toNat + len ≤ 128 by omega);rw [show (n.natAbs : Int) * 2 ^ k.toNat = ((n.natAbs * 2 ^ k.toNat : Nat) : Int) by simp];refine ⟨?_, by omega⟩;rcases h with h | h <;> omega
theorem ae8 {h1 l1 n : Int} (k : Nat) (H1 : bx h1 l1 n) : (if decide (h1 < 0) = true then -((n.natAbs : Int) * 2 ^ k) else (n.natAbs : Int) * 2 ^ k) = n * 2 ^ k := by
  have bC := H1.neg;rcases qi n 0 with a | a
  · obtain ⟨x, rfl⟩ : ∃ x : Nat, n = -(x : Int) := ⟨n.natAbs, by omega⟩
    rw [if_pos (bg (bC.2 a)), Int.natAbs_neg, Int.natAbs_natCast, Int.neg_mul]
  · obtain ⟨x, rfl⟩ : ∃ x : Nat, n = (x : Int) := ⟨n.natAbs, by omega⟩
    rw [if_neg (by simp; omega), Int.natAbs_natCast]
theorem afa {h1 l1 n ph pl P : Int} {k : Nat} (w : World) (H1 : bx h1 l1 n) (e : Hid (P = (n.natAbs : Int) * 2 ^ k)) (hp : cR ph pl P) :
    Calls aj 280 #[.agg #[.int .u64 ph, .int .u64 pl], .bool (decide (h1 < 0))] w (mA (n * 2 ^ k) w) := by
  rw [← ae8 k H1, ← e.out];exact Rd ph pl P _ w hp
theorem S8 (k : Int) (w : World) (af : 0 ≤ k) :
    Calls aj 271 #[.agg #[.int .i64 0, .int .u64 0], .int .i64 k] w (hj (.tuple #[.agg #[.int .i64 0, .int .u64 0], .bool true]) w) := by
  have he : ga 0 0 0 0 = true := rfl
  go_enter Tryz.func271, Tryz.ntmps271
  go_wp2
  refine bodyPost_ret (v := .tuple #[.agg #[.int .i64 0, .int .u64 0], .bool true]) (by simp only [results, Tryz.results271]; go_simp) rfl ⟨rfl, ?_⟩;(repeat first | with_reducible exact Below.refl _ _ | with_reducible refine c6 ?_ _)
theorem S7 (h1 l1 n k : Int) (w : World) (H1 : bx h1 l1 n) (aE : n ≠ 0) (af : 0 ≤ k) (xm : k < 9223372036854775808) :
    Calls aj 271 #[.agg #[.int .i64 h1, .int .u64 l1], .int .i64 k] w (mA (n * 2 ^ k.toNat) w) := by
  have he : ga h1 l1 0 0 = false := by rw [H1.ga oX]; exact bl aE
  go_enter Tryz.func271, Tryz.ntmps271
  go_wp2_with (go_at_call 279; refine (AV h1 l1 n _ H1).mono ?_; rintro e aP ⟨sh, sl, rfl, hs, bE⟩; have gy : ah aP (w.heap.size) (.int .i64 h1) (.int .u64 l1) := (by (repeat first | focus ((with_reducible refine ah.new ?_); simp; done) | with_reducible refine ah.alloc ?_ _ | with_reducible refine ah.call ?_ bE)); obtain ⟨⟨l6, l7⟩, l9, ma⟩ := id gy; have jM : ah aP (w.heap.size + 1) (.int .i64 0) (.int .u64 0) := (by (repeat first | focus ((with_reducible refine ah.new ?_); simp; done) | with_reducible refine ah.call ?_ bE)); obtain ⟨⟨pD, pI⟩, pN, pP⟩ := id jM; have mP := Below.size bE; (try simp at mP); have um : ¬ aP.heap.size = w.heap.size := (by omega); have vP : ¬ aP.heap.size = w.heap.size + 1 := (by omega); have tF : ¬ w.heap.size = aP.heap.size := (by omega); have vf : ¬ w.heap.size + 1 = aP.heap.size := (by omega); have uj : w.heap.size < aP.heap.size := (by omega); have vM : w.heap.size + 1 < aP.heap.size := (by omega))
  refine (aaE _ _ _ _ hs).mono ?_;rintro e w2 ⟨len, rfl, ao, b4⟩;have ju : ah w2 (w.heap.size) (.int .i64 h1) (.int .u64 l1) := (by (repeat first | with_reducible assumption | with_reducible refine ah.alloc ?_ _ | with_reducible refine ah.call ?_ b4)); obtain ⟨⟨pE, pJ⟩, pO, pQ⟩ := id ju; have lX : ah w2 (w.heap.size + 1) (.int .i64 0) (.int .u64 0) := (by (repeat first | with_reducible assumption | with_reducible refine ah.alloc ?_ _ | with_reducible refine ah.call ?_ b4)); obtain ⟨⟨tr, tB⟩, tJ, tO⟩ := id lX; have lY : ah w2 (aP.heap.size) (.int .u64 sh) (.int .u64 sl) := (by (repeat first | focus ((with_reducible refine ah.new ?_); simp; done) | with_reducible refine ah.call ?_ b4)); obtain ⟨⟨tu, tC⟩, tK, tP⟩ := id lY; have n5 := Below.size b4; (try simp at n5); have xG : ¬ w2.heap.size = w.heap.size := (by omega); have Aj : ¬ w2.heap.size = w.heap.size + 1 := (by omega); have wW : ¬ w.heap.size = w2.heap.size := (by omega); have yU : ¬ w.heap.size + 1 = w2.heap.size := (by omega); have xA : w.heap.size < w2.heap.size := (by omega); have Ad : w.heap.size + 1 < w2.heap.size := (by omega);rw [kW] at ao;have nt := aaG ao
  by_cases az : 128 - (len : Int) < k
  · have my := Lib.hid (ae3 ao aE af az)
    go_wp2
    refine bodyPost_ret (v := .tuple #[.agg #[.int .i64 0, .int .u64 0], .bool false]) (by simp only [results, Tryz.results271]; go_simp) rfl (v8 my.out ?_);(repeat first | with_reducible exact Below.refl _ _ | with_reducible refine c6 ?_ _ | focus ((with_reducible refine eW ?_ _ _ _ ?_); rotate_left; omega) | with_reducible refine b6 ?_ b4 | with_reducible refine b6 ?_ bE)
  · obtain ⟨Yt, hu⟩ := ae4 ao aE af (by omega)
    have gY : k ≤ 128 - (len : Int) := by omega
    have BA := Lib.hid hu;clear hu az aE;have Y4 : Hid (∀ w, Calls aj 292 #[.agg #[.int .u64 sh, .int .u64 sl], .int .u64 k] w (aX ((n.natAbs : Int) * 2 ^ k.toNat) w)) := fun w => Q8 _ _ _ _ w hs af Yt BA.out;generalize kr : n * 2 ^ k.toNat = N at *;have nK := Lib.hid kr;generalize fp : (n.natAbs : Int) * 2 ^ k.toNat = P at *;have rR := Lib.hid fp.symm;clear kr fp
    have Y3 : Hid (∀ (ph pl : Int) w, cR ph pl P → Calls aj 280 #[.agg #[.int .u64 ph, .int .u64 pl], .bool (decide (h1 < 0))] w (mA N w)) := fun ph pl w hp => by
      rw [← nK.out];exact afa w H1 rR hp
    have aiC : aP.heap.size < w2.heap.size := by omega
    have Dp : IntKind.u64.wrap k = k := by rw [IntKind.wrap_u64]; omega
    go_wp2_with fail
    go_region_held3 (fun w' => (w'.cell? ⟨w.heap.size, 0, none⟩ = some (.int .i64 h1) ∧ w'.cell? ⟨w.heap.size, 1, none⟩ = some (.int .u64 l1)) ∧ (w'.cell? ⟨aP.heap.size, 0, none⟩ = some (.int .u64 sh) ∧ w'.cell? ⟨aP.heap.size, 1, none⟩ = some (.int .u64 sl))) (go_keep)
      (first
        | (go_at_call 292; ((with_reducible refine (Y4.out _).mono ?_); rintro e w3 ⟨Jv, Jw, rfl, aD, c8⟩; have lZ : ah w3 (w.heap.size) (.int .i64 h1) (.int .u64 l1) := (by (repeat first | with_reducible assumption | with_reducible refine ah.drew ?_ | with_reducible refine ah.call ?_ c8)); obtain ⟨⟨wP, wU⟩, w0, w7⟩ := id lZ; have rN : ah w3 (w.heap.size + 1) (.int .i64 0) (.int .u64 0) := (by (repeat first | with_reducible assumption | with_reducible refine ah.drew ?_ | with_reducible refine ah.call ?_ c8)); obtain ⟨⟨Cg, Cs⟩, CH, CQ⟩ := id rN; have wx : ah w3 (aP.heap.size) (.int .u64 sh) (.int .u64 sl) := (by (repeat first | with_reducible assumption | with_reducible refine ah.drew ?_ | with_reducible refine ah.call ?_ c8)); obtain ⟨⟨Ga, Gi⟩, Gx, GJ⟩ := id wx; have sC := Below.size c8; (try simp at sC); have Ak : ¬ w3.heap.size = w.heap.size := (by omega); have D2 : ¬ w3.heap.size = w.heap.size + 1 := (by omega); have yV : ¬ w.heap.size = w3.heap.size := (by omega); have Cx : ¬ w.heap.size + 1 = w3.heap.size := (by omega); have Ae : w.heap.size < w3.heap.size := (by omega); have DP : w.heap.size + 1 < w3.heap.size := (by omega)))
        | (go_at_call 280; ((with_reducible refine (Y3.out _ _ _ aD).mono ?_); rintro e fA ⟨jH, jI, rfl, ap, fh⟩; have Bl : ah fA (w.heap.size) (.int .i64 h1) (.int .u64 l1) := (by (repeat first | with_reducible assumption | with_reducible refine ah.call ?_ fh)); obtain ⟨⟨K7, Lv⟩, L4, Mh⟩ := id Bl; have Bm : ah fA (w.heap.size + 1) (.int .i64 0) (.int .u64 0) := (by (repeat first | with_reducible assumption | with_reducible refine ah.call ?_ fh)); obtain ⟨⟨K8, Lw⟩, L5, Mi⟩ := id Bm; have Bn : ah fA (aP.heap.size) (.int .u64 sh) (.int .u64 sl) := (by (repeat first | with_reducible assumption | with_reducible refine ah.call ?_ fh)); obtain ⟨⟨K9, Lx⟩, L6, Mj⟩ := id Bn; have HY := Below.size fh; (try simp at HY); have OX : ¬ fA.heap.size = w.heap.size := (by omega); have OY : ¬ fA.heap.size = w.heap.size + 1 := (by omega); have LW : ¬ w.heap.size = fA.heap.size := (by omega); have LX : ¬ w.heap.size + 1 = fA.heap.size := (by omega); have On : w.heap.size < fA.heap.size := (by omega); have Oo : w.heap.size + 1 < fA.heap.size := (by omega))))
    all_goals
      go_wp2
      refine bodyPost_ret (v := .tuple #[.agg #[.int .i64 jH, .int .u64 jI], .bool (fits N)]) (by simp only [results, Tryz.results271]; go_simp) rfl ⟨jH, jI, rfl, ap, ?_⟩;(repeat first | with_reducible exact Below.refl _ _ | with_reducible refine c6 ?_ _ | focus ((with_reducible refine eW ?_ _ _ _ ?_); rotate_left; omega) | with_reducible refine Below.drew ?_ | with_reducible refine b6 ?_ fh | with_reducible refine b6 ?_ c8 | with_reducible refine b6 ?_ b4 | with_reducible refine b6 ?_ bE)
end Go.Proofs.YtpochbhajmbfdaaGreat
namespace Go.Proofs.YtpochbhajmbfdaaGreat
open Go.RowKit
theorem S6 (h1 l1 n k : Int) (w : World) (H1 : bx h1 l1 n) (af : 0 ≤ k) (xm : k < 9223372036854775808) :
    Calls aj 271 #[.agg #[.int .i64 h1, .int .u64 l1], .int .i64 k] w (mA (n * 2 ^ k.toNat) w) := by
  by_cases e : n = 0
  · subst e
    obtain ⟨rfl, rfl⟩ := H1.inj oX;rw [Int.zero_mul];exact (S8 k w af).mono fun e w' ⟨he, ab⟩ => ⟨0, 0, he, by show bx 0 0 0; exact oX, ab⟩
  · exact S7 h1 l1 n k w H1 e af xm
end Go.Proofs.YtpochbhajmbfdaaGreat
