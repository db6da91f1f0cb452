/-
  My own texts, without what this claim does not need. My own text.
-/
import Derived.WalkKit
import Derived.Deep.QuietTactic
import Derived.OwnWalk
import Derived.Laws.OwnMore
import Derived.Maps.AppendAt
import Derived.IntWalk
import Derived.Test.YtbcecodakfejaaaGreatSNodedK6
set_option maxRecDepth 100000
set_option maxHeartbeats 64000000
set_option linter.unusedVariables false
set_option linter.unusedSimpArgs false
set_option linter.unusedSectionVars false
open Go.Proofs.Tryz renaming prog → ag
namespace Go.Proofs.YtbcecodakfejaaaGreat
open Go.RowKit
def cN (k : Nat) (cs : List AC) : Mem := bK ca k cs
theorem hK {k j : Nat} {cs ds : List AC} (h : cN k cs j = some ds) : j = k ∧ ds = cs := by
 unfold cN at h
 by_cases e : j = k
 ·subst e; rw [cx] at h; exact ⟨rfl, (kJ h).symm⟩
 ·rw [cl _ _ e] at h; cases h
theorem fK {k j : Nat} {r q : bG} (h : br k r j = some q) : j = k ∧ q = r := by
 unfold br at h
 by_cases e : j = k
 ·subst e; rw [cx] at h; exact ⟨rfl, (kJ h).symm⟩
 ·rw [cl _ _ e] at h; cases h
theorem vI {α : Type} (f : Nat → Option α) (k : Nat) (x : α) : bV (bK (fun _ => none) k x) f = bK f k x := by
 funext j
 by_cases e : j = k
 ·subst e; rw [cx]; exact hL (cx _ _ _)
 ·rw [cl _ _ e]; exact hM (cl _ _ e)
theorem PC {α : Type} (f : Nat → Option α) : bV (fun _ => none) f = f := by funext j; exact hM rfl
def xQ (n : Nat) (args : List ah) (m : Mem) : aA := ⟨n, fun t => args[t]?, m⟩
def tv (P : Program) (fn : Func) (m0 : Mem) (R0 : aI) (Post : ah → Mem → aI → Prop) (R : aI) (s : aA) : Prop :=
 ∃ xs r aG ay, fn.results.toList.map (iK P s) = xs.map some ∧ (packed xs).aQ r ∧ Post r aG ay ∧ (∀ k cs, aG k = some cs → s.mem k = some cs) ∧ bB ay R ∧ (∀ j, r.owns j → ∃ cs, aG j = some cs) ∧ (∀ k cs x j, aG k = some cs → x ∈ cs → x.owns j → ∃ au, aG j = some au) ∧ (∀ k cs, m0 k = some cs → ∃ au, aG k = some au) ∧ ∀ i r, R0 i = some r → ∃ aX, ay i = some aX
def jU (P : Program) (fn : Func) (m0 : Mem) (R0 : aI) (Post : ah → Mem → aI → Prop) : Exit → aI → aA → Prop
 | .normal, R, s | .ret, R, s => tv P fn m0 R0 Post R s
 | _, _, _ => False
section
variable {P : Program}
theorem dv {f : FuncId} {fn : Func} {c : Code} {args : List ah} {m0 : Mem} {R0 : aI} {Post : ah → Mem → aI → Prop} (ar : P.funcs[f]? = some fn) (ab : fn.body = some c) (ax : args.length ≤ fn.ntmps) (wW : ∀ k cs, m0 k = some cs → fn.ntmps ≤ k)
  (h : fs P c (jU P fn m0 R0 Post) R0 (xQ fn.ntmps args m0)) : dk P f args m0 R0 Post := by
 refine ⟨fun U ad W vs cj cp cL => ?_⟩;have ak := cL.1;refine calls_of_wp ar ab ?_;have ok : (xQ fn.ntmps args m0).cE := ⟨fun t av j aB ae => cp av (c7 aB) j ae, fun k cs x j af aa ae => cj.fJ k cs x j af aa ae⟩
 let a8 : eH := ⟨W, fun b => b < W.heap.size ∧ ¬ en ad m0 R0 b, fun _ h => h.1, fun k => match m0 k with | some _ => some (ad k) | none => none, []⟩
 have bg : ∀ b, en ad m0 R0 b → b < W.heap.size := by
  rintro b (⟨k, cs, af, rfl⟩ | ⟨i, r, hi, aq⟩)
  ·obtain ⟨vs, ty, h1, _⟩ := cj.dn k cs af;exact (jv.1 h1).1
  ·exact (cj.rows i r hi).1.lt aq
 have Xn : ∀ b, U b → ¬ en ad m0 R0 b := by
  rintro b hu (⟨k, cs, af, rfl⟩ | ⟨i, r, hi, aq⟩)
  ·obtain ⟨_, _, _, _, h⟩ := cj.dn k cs af; exact h hu
  ·exact ((cj.rows i r hi).2.2 b aq).1 hu
 have ng : rj a8 (xQ fn.ntmps args m0) ad := fun k b af => by
  cases hm : m0 k with
  | none => simp only [a8, hm] at af; cases af
  | some cs => simp only [a8, hm, h0] at af; exact ⟨wW k cs hm, af⟩
 have jP : ∀ b, U b → b < W.heap.size → (xQ fn.ntmps args m0).free (fun b => U b ∨ W.heap.size ≤ b) ad b ∧ W.heap[b]? = W.heap[b]? := fun b hu _ => ⟨⟨.inl hu, fun k cs af e => Xn b hu (.inl ⟨k, cs, af, e⟩)⟩, rfl⟩
 have aw : eA a8 (fun b => U b ∨ W.heap.size ≤ b ∨ en ad m0 R0 b) R0 (xQ fn.ntmps args m0) { tmps := vs.toArray ++ Array.replicate (fn.ntmps - vs.toArray.size) undef, defers := [] } W (fun b => U b ∨ W.heap.size ≤ b) ad := by
  refine ⟨fun b ab => .inr (.inl ab), fun b ab => ab.elim .inl fun h => .inr (.inl h), ?_, fun k cs af ar => ar.2 (.inl ⟨k, cs, af, rfl⟩), ⟨rfl, rfl, rfl, dJ _, fun _ _ => rfl⟩, fun i r hi => ?_, cj.apart, fun i r g hi aq => ⟨fun ar => ar.2 (.inr ⟨i, r, hi, aq⟩), .inr (.inr (.inr ⟨i, r, hi, aq⟩))⟩, ng⟩
  ·refine ⟨rfl, by simp [xQ]; omega, fun t av aB => ?_, fun k cs af => ?_, cj.inj, iN.refl _, fun b ab => .inr ab, u5 _ _ _⟩
   ·have Ct : t < vs.length := by rw [← ak]; exact (bM.1 aB).1
    refine ⟨vs[t], by simp [Array.getElem?_append, Ct], ?_⟩;exact (cL.2 t av _ aB (bN Ct)).map jP fun _ _ => rfl
   ·obtain ⟨us, ty, h1, h2, an⟩ := cj.dn k cs af;exact ⟨us, ty, h1, h2.map jP fun _ _ _ _ => rfl, fun ar => ar.2 k cs af rfl⟩
  ·obtain ⟨lu, aj, aq⟩ := cj.rows i r hi;refine ⟨lu.kept aj (fun _ _ => rfl) (dJ _) jP, aj, fun g q => ⟨?_, fun k cs af => (aq g q).2 k cs af⟩⟩;rintro (hu | hu)
   ·exact (aq g q).1 hu
   ·have := bg g (.inr ⟨i, r, hi, q⟩); omega
 refine wp_mono (h ok a8 _ _ W ⟨_, ad, aw⟩).top ?_;rintro e a' w' ⟨ec, s', cS, ⟨dR, aY, bZ⟩, al⟩
 have fin : tv P fn m0 R0 Post ec s' → a'.defers = [] ∧ ∃ v, (results fn a'.tmps).run P w' = .ok v w' ∧ ∃ v' r aG ay aY cF, Ending.returned v = .returned v' ∧ Post r aG ay ∧ e3 cF aY w' aG ay ∧ da cF aY w' r v' ∧ (∀ j, r.owns j → ∃ cs, aG j = some cs) ∧
   (∀ k cs, m0 k = some cs → aY k = ad k ∧ ∃ au, aG k = some au) ∧ (∀ i r, R0 i = some r → ∃ aX, ay i = some aX) ∧
   (∀ b, cF b → U b ∨ W.heap.size ≤ b ∨ en ad m0 R0 b) ∧ (∀ b, en aY aG ay b → en ad m0 R0 b ∨ W.heap.size ≤ b) ∧ iN (GP ad W m0 R0) w' := by
  rintro ⟨xs, r, aG, ay, h1, h2, an, aE, cY, fh, jM, pA, iT⟩;obtain ⟨v, q1, q2⟩ := QY bZ.rel h1;refine ⟨bZ.rel.pT, v, q1, v, r, aG, ay, aY, s'.free dR aY, rfl, an, bZ.part aE cY jM, h2 _ _ _ _ q2, fh, fun k cs af => ⟨(bZ.jH k (ad k) (by simp [a8, af])).2, pA k cs af⟩, iT, fun b ab => bZ.sub b ab.1, ?_, ⟨bZ.below.os, bZ.below.tape, bZ.below.output, bZ.below.size, fun b ab => bZ.below.block b ab⟩⟩;rintro b (⟨k, cs, af, rfl⟩ | ⟨i, q, hi, aq⟩)
  ·have GN := bZ.oS k cs (aE k cs af);rcases hz (aY k) W.heap.size with nm | nm
   ·exact .inl (Classical.byContradiction fun ax => GN ⟨nm, ax⟩)
   ·exact .inr nm
  ·have GN := (bZ.hot i q b (cY i q hi) aq).1;rcases hz b W.heap.size with nm | nm
   ·exact .inl (Classical.byContradiction fun ax => GN ⟨nm, ax⟩)
   ·exact .inr nm
 cases e with
 | normal => exact fin al
 | ret => exact fin al
 | _ => exact al.elim
end
def AC.a6 (bF : Nat → Nat) : AC → AC
 | .own k o => .own (bF k) o
 | .c v => .c v
 | .p R => .p R
def bz.a6 (bF : Nat → Nat) : bz → bz
 | .one x => .one (x.a6 bF)
 | .agg xs => .agg (xs.map (AC.a6 bF))
def ah.a6 (bF : Nat → Nat) : ah → ah
 | .w x => .w (x.a6 bF)
 | .cr xs => .cr (xs.map (bz.a6 bF))
def Mem.a6 (bF : Nat → Nat) (m : Mem) : Mem := fun j => (m (bF j)).map fun cs => cs.map (AC.a6 bF)
def aI.a6 (b4 : Nat → Nat) (R : aI) : aI := fun j => R (b4 j)
section
variable {P : Program} {U : Nat → Prop} {ad : Nat → Nat} {W : World} {bF b4 ix : Nat → Nat}
theorem gh.a6 {x : AC} {v : Value} : gh U ad W (x.a6 bF) v ↔ gh U (fun k => ad (bF k)) W x v := by cases x <;> exact Iff.rfl
theorem bL.a6 {xs : List AC} {vs : List Value} : bL U ad W (xs.map (AC.a6 bF)) vs ↔ bL U (fun k => ad (bF k)) W xs vs := by
 constructor
 ·rintro ⟨h1, h2⟩;refine ⟨by simpa using h1, fun i x v aa hv => gh.a6.1 (h2 i (x.a6 bF) v (by rw [eg, aa]; rfl) hv)⟩
 ·rintro ⟨h1, h2⟩;refine ⟨by simpa using h1, fun i x v aa hv => ?_⟩;rw [eg] at aa;cases ai : xs[i]? with
  | none => rw [ai] at aa; cases aa
  | some y => rw [ai] at aa; cases aa; exact gh.a6.2 (h2 i y v ai hv)
theorem fX.a6 {x : bz} {v : Value} : fX U ad W (x.a6 bF) v ↔ fX U (fun k => ad (bF k)) W x v := by
 cases x with
 | one x => exact gh.a6
 | agg xs =>
  constructor
  ·rintro ⟨vs, e, h⟩; exact ⟨vs, e, bL.a6.1 h⟩
  ·rintro ⟨vs, e, h⟩; exact ⟨vs, e, bL.a6.2 h⟩
theorem da.a6 {x : ah} {v : Value} : da U ad W (x.a6 bF) v ↔ da U (fun k => ad (bF k)) W x v := by
 cases x with
 | w x => exact fX.a6
 | cr xs =>
  constructor
  ·rintro ⟨vs, e, ak, h⟩;exact ⟨vs, e, by simpa using ak, fun i x v aa hv => fX.a6.1 (h i (x.a6 bF) v (by rw [eg, aa]; rfl) hv)⟩
  ·rintro ⟨vs, e, ak, h⟩;refine ⟨vs, e, by simpa using ak, fun i x v aa hv => ?_⟩;rw [eg] at aa;cases ai : xs[i]? with
   | none => rw [ai] at aa; cases aa
   | some y => rw [ai] at aa; cases aa; exact fX.a6.2 (h i y v ai hv)
theorem AC.DT {x : AC} {j : Nat} (h : (x.a6 bF).owns j) : ∃ i, x.owns i ∧ j = bF i := by
 cases x with
 | own k o => exact ⟨k, rfl, h⟩
 | c v => cases h
 | p R => cases h
theorem AC.Dv {x : AC} {j : Nat} (h : x.owns j) : (x.a6 bF).owns (bF j) := by
 cases x with
 | own k o => cases h; rfl
 | c v => cases h
 | p R => cases h
theorem bz.K3 (x : bz) : (x.a6 bF).cells = x.cells.map (AC.a6 bF) := by cases x <;> rfl
theorem ah.DT {x : ah} {j : Nat} (h : (x.a6 bF).owns j) : ∃ i, x.owns i ∧ j = bF i := by
 have key : ∀ y : bz, (y.a6 bF).owns j → ∃ i, y.owns i ∧ j = bF i := by
  rintro y ⟨z, aP, ae⟩;rw [bz.K3] at aP;obtain ⟨u, hu, rfl⟩ := iv.1 aP;obtain ⟨i, h1, h2⟩ := AC.DT ae;exact ⟨i, ⟨u, hu, h1⟩, h2⟩
 cases x with
 | w x => exact key x h
 | cr xs =>
  obtain ⟨y, ai, ae⟩ := h;obtain ⟨u, hu, rfl⟩ := iv.1 ai;obtain ⟨i, h1, h2⟩ := key u ae;exact ⟨i, ⟨u, hu, h1⟩, h2⟩
theorem ah.Dv {x : ah} {j : Nat} (h : x.owns j) : (x.a6 bF).owns (bF j) := by
 have key : ∀ y : bz, y.owns j → (y.a6 bF).owns (bF j) := by
  rintro y ⟨z, aP, ae⟩;exact ⟨z.a6 bF, by rw [bz.K3]; exact iv.2 ⟨z, aP, rfl⟩, AC.Dv ae⟩
 cases x with
 | w x => exact key x h
 | cr xs =>
  obtain ⟨y, ai, ae⟩ := h;exact ⟨y.a6 bF, iv.2 ⟨y, ai, rfl⟩, key y ae⟩
theorem Mem.q8 {m : Mem} {j : Nat} {cs : List AC} (h : Mem.a6 bF m j = some cs) : ∃ ds, m (bF j) = some ds ∧ cs = ds.map (AC.a6 bF) := by
 unfold Mem.a6 at h;cases hm : m (bF j) with
 | none => rw [hm] at h; cases h
 | some ds => rw [hm] at h; exact ⟨ds, rfl, (kJ h).symm⟩
theorem Mem.q7 (fA : ∀ j, bF (bF j) = j) {m : Mem} {k : Nat} {cs : List AC} (h : m k = some cs) : Mem.a6 bF m (bF k) = some (cs.map (AC.a6 bF)) := by
 unfold Mem.a6; rw [fA, h]; rfl
theorem en.a6 (fA : ∀ j, bF (bF j) = j) (fH : ∀ j, b4 (ix j) = j) {m : Mem} {R : aI} {b : Nat} : en ad (m.a6 bF) (R.a6 b4) b ↔ en (fun k => ad (bF k)) m R b := by
 constructor
 ·rintro (⟨k, cs, af, e⟩ | ⟨i, r, hi, aq⟩)
  ·obtain ⟨ds, h1, _⟩ := Mem.q8 af;exact .inl ⟨bF k, ds, h1, by simp only [fA]; exact e⟩
  ·exact .inr ⟨b4 i, r, hi, aq⟩
 ·rintro (⟨k, cs, af, e⟩ | ⟨i, r, hi, aq⟩)
  ·exact .inl ⟨bF k, _, Mem.q7 fA af, e⟩
  ·exact .inr ⟨ix i, r, by unfold aI.a6; rw [fH]; exact hi, aq⟩
theorem e3.a6 (fA : ∀ j, bF (bF j) = j) (fH : ∀ j, b4 (ix j) = j) (vp : ∀ j, ix (b4 j) = j) {m : Mem} {R : aI} : e3 U ad W (m.a6 bF) (R.a6 b4) ↔ e3 U (fun k => ad (bF k)) W m R := by
 have NG : ∀ {a b : Nat}, bF a = bF b → a = b := fun {a b} h => by rw [← fA a, h, fA]
 have Zu : ∀ {a b : Nat}, b4 a = b4 b → a = b := fun {a b} h => by rw [← vp a, h, vp]
 have Zv : ∀ {a b : Nat}, ix a = ix b → a = b := fun {a b} h => by rw [← fH a, h, fH]
 constructor
 ·intro h;refine ⟨fun k cs af => ?_, fun k cs x j af aa ae => ?_, fun k k' cs au af eL e => ?_, fun i r hi => ?_, fun i j r q hi ae gG g aq => h.apart (ix i) (ix j) r q (by unfold aI.a6; rw [fH]; exact hi) (by unfold aI.a6; rw [fH]; exact ae) (fun e => gG (Zv e)) g aq⟩
  ·obtain ⟨vs, ty, h1, h2, an⟩ := h.dn (bF k) _ (Mem.q7 fA af);exact ⟨vs, ty, h1, bL.a6.1 h2, an⟩
  ·obtain ⟨au, h1⟩ := h.fJ (bF k) _ (x.a6 bF) (bF j) (Mem.q7 fA af) (iv.2 ⟨x, aa, rfl⟩) (AC.Dv ae);obtain ⟨ds, h2, _⟩ := Mem.q8 h1;rw [fA] at h2;exact ⟨ds, h2⟩
  ·exact NG (h.inj (bF k) (bF k') _ _ (Mem.q7 fA af) (Mem.q7 fA eL) e)
  ·obtain ⟨h1, an, aE⟩ := h.rows (ix i) r (by unfold aI.a6; rw [fH]; exact hi);exact ⟨h1.kept an (fun _ _ => rfl) (dJ _) (fun b ab _ => ⟨ab, rfl⟩), an, fun g aq => ⟨(aE g aq).1, fun k cs af => (aE g aq).2 (bF k) _ (Mem.q7 fA af)⟩⟩
 ·intro h;refine ⟨fun k cs af => ?_, fun k cs x j af aa ae => ?_, fun k k' cs au af eL e => ?_, fun i r hi => ?_, fun i j r q hi ae gG g aq => h.apart (b4 i) (b4 j) r q hi ae (fun e => gG (Zu e)) g aq⟩
  ·obtain ⟨ds, aD, rfl⟩ := Mem.q8 af;obtain ⟨vs, ty, h1, h2, an⟩ := h.dn (bF k) ds aD;simp only [fA] at h1 an;exact ⟨vs, ty, h1, bL.a6.2 h2, an⟩
  ·obtain ⟨ds, aD, rfl⟩ := Mem.q8 af;obtain ⟨y, ai, rfl⟩ := iv.1 aa;obtain ⟨i, h1, rfl⟩ := AC.DT ae;obtain ⟨au, h2⟩ := h.fJ (bF k) ds y i aD ai h1;exact ⟨_, Mem.q7 fA h2⟩
  ·obtain ⟨ds, aD, _⟩ := Mem.q8 af;obtain ⟨VX, yJ, _⟩ := Mem.q8 eL;exact NG (h.inj (bF k) (bF k') _ _ aD yJ (by simp only [fA]; exact e))
  ·obtain ⟨h1, an, aE⟩ := h.rows (b4 i) r hi;refine ⟨h1.kept an (fun _ _ => rfl) (dJ _) (fun b ab _ => ⟨ab, rfl⟩), an, fun g aq => ⟨(aE g aq).1, fun k cs af => ?_⟩⟩;obtain ⟨ds, aD, _⟩ := Mem.q8 af;have := (aE g aq).2 (bF k) ds aD;simpa only [fA] using this
theorem dk.a6 (fA : ∀ j, bF (bF j) = j) (fH : ∀ j, b4 (ix j) = j) (vp : ∀ j, ix (b4 j) = j) {f : FuncId} {args : List ah} {m0 : Mem} {R0 : aI} {Post : ah → Mem → aI → Prop} (h : dk P f args m0 R0 Post) :
  dk P f (args.map (ah.a6 bF)) (m0.a6 bF) (R0.a6 b4) fun r aG ay => ∃ b6 m1 ba, Post b6 m1 ba ∧ r = b6.a6 bF ∧ aG = Mem.a6 bF m1 ∧ ay = aI.a6 b4 ba := by
 refine ⟨fun U ad W vs cj cp cL => ?_⟩;have Y5 : kb U (fun k => ad (bF k)) W args vs := ⟨by simpa using cL.1, fun i x v aa hv => da.a6.1 (cL.2 i (x.a6 bF) v (by rw [eg, aa]; rfl) hv)⟩;refine (h.call U (fun k => ad (bF k)) W vs ((e3.a6 fA fH vp).1 cj) (fun x aa j ae => ?_) Y5).mono ?_
 ·obtain ⟨cs, h1⟩ := cp (x.a6 bF) (iv.2 ⟨x, aa, rfl⟩) (bF j) (ah.Dv ae);obtain ⟨ds, h2, _⟩ := Mem.q8 h1;rw [fA] at h2;exact ⟨ds, h2⟩
 ·rintro e bh ⟨v, r, aG, ay, aY, cF, rfl, h1, h2, an, aE, cY, fh, jM, pA, iT⟩;have aF : (fun k => (fun k => aY (bF k)) (bF k)) = aY := by funext k; simp only [fA]
  refine ⟨v, r.a6 bF, aG.a6 bF, ay.a6 b4, fun k => aY (bF k), cF, rfl, ⟨r, aG, ay, h1, rfl, rfl, rfl⟩, (e3.a6 fA fH vp).2 (by rw [aF]; exact h2), da.a6.2 (by rw [aF]; exact an), fun j ae => ?_, fun k cs af => ?_, fun i q hi => ?_, fun b ab => ?_, fun b ab => ?_, ⟨iT.os, iT.tape, iT.output, iT.size, fun b ab => iT.block b ⟨ab.1, fun aU => ab.2 ((en.a6 fA fH).2 aU)⟩⟩⟩
  ·obtain ⟨i, q1, rfl⟩ := ah.DT ae;obtain ⟨cs, q2⟩ := aE i q1;exact ⟨_, Mem.q7 fA q2⟩
  ·obtain ⟨ds, di, _⟩ := Mem.q8 af;obtain ⟨q1, au, q2⟩ := cY (bF k) ds di;refine ⟨by show aY (bF k) = ad k; rw [q1, fA], ?_⟩;have := Mem.q7 fA q2;rw [fA] at this;exact ⟨_, this⟩
  ·exact fh (b4 i) q hi
  ·rcases jM b ab with q | q | q
   ·exact .inl q
   ·exact .inr (.inl q)
   ·exact .inr (.inr ((en.a6 fA fH).2 q))
  ·have : en (fun k => (fun k => aY (bF k)) (bF k)) aG ay b := (en.a6 fA fH).1 ab;rw [aF] at this;rcases pA b this with q | q
   ·exact .inl ((en.a6 fA fH).2 q)
   ·exact .inr q
end
def swp (a b j : Nat) : Nat := if j = a then b else if j = b then a else j
theorem mS (a b j : Nat) : swp a b (swp a b j) = j := by
 unfold swp
 by_cases h1 : j = a
 ·subst h1
  by_cases h2 : b = j
  ·simp [h2]
  ·simp [h2]
 ·by_cases h2 : j = b
  ·subst h2; simp [h1]
  ·simp [h1, h2]
theorem Ay (a b : Nat) : swp a b a = b := by simp [swp]
theorem RC (a b : Nat) : swp a b b = a := by unfold swp; by_cases h : b = a <;> simp [h]
theorem QU {bF : Nat → Nat} {x : AC} (h : x.aZ = true) : x.a6 bF = x := by cases x <;> first | rfl | cases h
theorem QV {bF : Nat → Nat} {xs : List AC} (h : xs.all AC.aZ = true) : xs.map (AC.a6 bF) = xs := by
 rw [cB] at h
 conv => rhs; rw [← List.map_id xs]
 exact nE fun x aa => QU (h x aa)
theorem uh {bF : Nat → Nat} {x : ah} (h : x.aZ = true) : x.a6 bF = x := by
 have key : ∀ y : bz, y.aZ = true → y.a6 bF = y := fun y ai => by
  cases y with
  | one x => show bz.one (x.a6 bF) = _; rw [QU ai]
  | agg xs => show bz.agg (xs.map _) = _; rw [QV ai]
 cases x with
 | w x => show ah.w (x.a6 bF) = _; rw [key x h]
 | cr xs =>
  show ah.cr (xs.map _) = _;congr 1;have aO : ∀ x ∈ xs, x.aZ = true := cB.1 h
  conv => rhs; rw [← List.map_id xs]
  exact nE fun x aa => key x (aO x aa)
theorem vw {k j : Nat} {cs : List AC} (h : cs.all AC.aZ = true) : Mem.a6 (swp k j) (cN k cs) = cN j cs := by
 funext i;unfold Mem.a6 cN
 by_cases e : i = j
 ·subst e; rw [RC, cx, cx, gL, QV h]
 ·rw [cl _ _ e, cl _ _ (fun aM => e (by rw [← mS k j i, aM, Ay]))]; rfl
theorem Ai {k j : Nat} {r : bG} : aI.a6 (swp k j) (br k r) = br j r := by
 funext i;unfold aI.a6 br
 by_cases e : i = j
 ·subst e; rw [RC, cx, cx]
 ·rw [cl _ _ e, cl _ _ (fun aM => e (by rw [← mS k j i, aM, Ay]))]; rfl
def ql (P : Program) (f : FuncId) (args : List ah) (cs : List AC) (r : bG) (post : ah → List AC → bG → Prop) : Prop :=
 ∀ k i, dk P f (.w (.one (.own k 0)) :: args) (cN k cs) (br i r) fun v aG ay => ∃ au aX, aG = cN k au ∧ ay = br i aX ∧ post v au aX
theorem tP {P : Program} {f : FuncId} {args : List ah} {cs : List AC} {r : bG} {post : ah → List AC → bG → Prop} (aJ : args.all ah.aZ = true) (aj : cs.all AC.aZ = true) (hp : ∀ v au aX, post v au aX → v.aZ = true ∧ au.all AC.aZ = true)
  (h : dk P f (.w (.one (.own 1000 0)) :: args) (cN 1000 cs) (br 0 r) fun v aG ay => ∃ au aX, aG = cN 1000 au ∧ ay = br 0 aX ∧ post v au aX) : ql P f args cs r post := by
 intro k i;have h1 := h.a6 (bF := swp 1000 k) (b4 := swp 0 i) (ix := swp 0 i) (mS _ _) (mS _ _) (mS _ _)
 have aF : (ah.w (.one (.own 1000 0)) :: args).map (ah.a6 (swp 1000 k)) = .w (.one (.own k 0)) :: args := by
  have aM : args.map (ah.a6 (swp 1000 k)) = args := by
   rw [cB] at aJ
   conv => rhs; rw [← List.map_id args]
   exact nE fun x aa => uh (aJ x aa)
  rw [j4, aM];show ah.w (.one (.own (swp 1000 k 1000) 0)) :: args = _;rw [Ay]
 rw [aF, vw aj, Ai] at h1;refine ⟨fun U ad W vs cj cp cL => (h1.call U ad W vs cj cp cL).mono ?_⟩;rintro e bh ⟨v, b6, aG, ay, aY, cF, di, ⟨cD, m2, ec, ⟨au, aX, rfl, rfl, al⟩, rfl, rfl, rfl⟩, q⟩;obtain ⟨c1, c2⟩ := hp _ _ _ al;rw [vw c2, Ai, uh c1] at q;exact ⟨v, cD, cN k au, br i aX, aY, cF, di, ⟨au, aX, rfl, rfl, al⟩, q⟩
section
variable {P : Program} {R : aI} {s : aA} {ops : Array Oper} {dr : Option (List Nat)} {ty : Nat} {pos : String} {after : Array Edge} {guard : Option (Nat × Bool)} {K : aI → aA → Prop} {rest : List Oper}
def kT (dst : Option Nat) (n : Nat) : Bool := match dst with
 | some d => Nat.blt d n
 | none => true
theorem Lt {dst : Option Nat} {n : Nat} (h : kT dst n = true) : ∀ d, dst = some d → d < n := fun d e => by subst e; simpa [kT, Nat.blt_eq] using h
theorem vl {dst : Option Nat} {f : FuncId} {g : Operand} {aL : Array TypeId} {l : List Operand} {args : List ah} {m0 : Mem} {R0 : aI} {Post : ah → Mem → aI → Prop} [E : Enters P f] (hw : want ops ⟨dst, .call ⟨.value g, l.toArray, aL⟩, ty, pos, after, guard⟩ s = some true) (hm : dW dr ⟨dst, .call ⟨.value g, l.toArray, aL⟩, ty, pos, after, guard⟩ = true)
  (aq : s.look g = some (aR (.func (.func f) #[] #[]))) (aJ : l.map s.look = args.map some) (hp : dk P f args m0 R0 Post) (az : ∀ x ∈ args, ∀ j, x.owns j → ∃ cs, m0 j = some cs) (nn : ∀ k cs, m0 k = some cs → s.mem k = some cs ∧ (pc dr k = true ∨ ∀ r aG ay, Post r aG ay → aG k = some cs)) (ap : bB R0 R) (fJ : ∀ k cs x j, m0 k = some cs → x ∈ cs → x.owns j → ∃ au, m0 j = some au) (hd : kT dst s.n = true)
  (h : ∀ r aG ay, Post r aG ay → (∀ k au, aG k = some au → (∃ cs, m0 k = some cs) ∨ (s.mem k = none ∧ k < s.n)) ∧ cQ P ops dr K rest (bV ay R) ((s.over aG).put dst r)) : cQ P ops dr K (⟨dst, .call ⟨.value g, l.toArray, aL⟩, ty, pos, after, guard⟩ :: rest) R s := by
 refine ⟨true, hw, Lt hd, .inr (.inr (.inr (.inr (.inl ⟨rfl, hm, f, args, m0, R0, Post, ⟨⟨_, g, rfl, rfl, .inl ⟨[], aq, ?_, rfl⟩⟩, E.h⟩, hp, az, nn, ap, fJ, fun r aG ay h1 _ _ _ => h r aG ay h1⟩))))⟩;simpa using aJ
theorem Nd (k i : Nat) {dst : Option Nat} {f : FuncId} {g : Operand} {aL : Array TypeId} {l : List Operand} {args : List ah} {cs : List AC} {r : bG} {post : ah → List AC → bG → Prop} [E : Enters P f] (hw : want ops ⟨dst, .call ⟨.value g, l.toArray, aL⟩, ty, pos, after, guard⟩ s = some true) (hm : dW dr ⟨dst, .call ⟨.value g, l.toArray, aL⟩, ty, pos, after, guard⟩ = true)
  (aq : s.look g = some (aR (.func (.func f) #[] #[]))) (aJ : l.map s.look = (ah.w (.one (.own k 0)) :: args).map some) (hp : ql P f args cs r post) (af : s.mem k = some cs) (hq : pc dr k = true ∨ ∀ v au aX, post v au aX → au = cs) (hi : R i = some r) (aj : cs.all AC.aZ = true) (ek : args.all ah.aZ = true) (hd : kT dst s.n = true)
  (h : ∀ v au aX, post v au aX → cQ P ops dr K rest (bK R i aX) ((s.eh k au).put dst v)) : cQ P ops dr K (⟨dst, .call ⟨.value g, l.toArray, aL⟩, ty, pos, after, guard⟩ :: rest) R s := by
 refine vl hw hm aq aJ (hp k i) (fun x aa j ae => ?_) (fun k' au aO => ?_) (fun fl aX aO => ?_) (fun k' au x j aO aa ae => ?_) hd ?_
 ·rcases fD.1 aa with rfl | aa
  ·obtain ⟨y, ai, ae⟩ := ae;simp [bz.cells] at ai;subst ai;cases ae;exact ⟨cs, by unfold cN; exact cx _ _ _⟩
  ·exact absurd ae (ah.du (cB.1 ek x aa) j)
 ·obtain ⟨rfl, rfl⟩ := hK aO;refine ⟨af, hq.imp id fun hu => ?_⟩;rintro v aG ay ⟨au, aX, rfl, rfl, al⟩;rw [hu v au aX al]; unfold cN; exact cx _ _ _
 ·obtain ⟨rfl, rfl⟩ := fK aO; exact hi
 ·obtain ⟨rfl, rfl⟩ := hK aO;exact absurd ae (AC.du (cB.1 aj x aa) j)
 ·rintro v aG ay ⟨au, aX, rfl, rfl, al⟩;refine ⟨fun k' c aO => ?_, ?_⟩
  ·obtain ⟨rfl, rfl⟩ := hK aO;exact .inl ⟨cs, by unfold cN; exact cx _ _ _⟩
  ·have aF : bV (br i aX) R = bK R i aX := vI R i aX
   have aM : s.over (cN k au) = s.eh k au := by
    show ({ s with mem := bV (bK ca k au) s.mem } : aA) = { s with mem := bK s.mem k au };rw [show bV (bK ca k au) s.mem = bK s.mem k au from vI s.mem k au]
   rw [aF, aM];exact h v au aX al
theorem r6 (k i : Nat) {dst : Option Nat} {f : FuncId} {g : Operand} {aL : Array TypeId} {l : List Operand} {args : List ah} {cs : List AC} {r : bG} {post : ah → List AC → bG → Prop} [E : Enters P f] (hw : want ops ⟨dst, .call ⟨.value g, l.toArray, aL⟩, ty, pos, after, guard⟩ s = some true) (hm : dW dr ⟨dst, .call ⟨.value g, l.toArray, aL⟩, ty, pos, after, guard⟩ = true)
  (aq : s.look g = some (aR (.func (.func f) #[] #[]))) (aJ : l.map s.look = (ah.w (.one (.own k 0)) :: args).map some) (hp : ql P f args cs r post) (af : s.mem k = some cs) (hq : pc dr k = true) (hi : R i = some r) (aj : cs.all AC.aZ = true) (ek : args.all ah.aZ = true) (hd : kT dst s.n = true)
  (h : ∀ v au aX, post v au aX → cQ P ops dr K rest (bK R i aX) ((s.eh k au).put dst v)) : cQ P ops dr K (⟨dst, .call ⟨.value g, l.toArray, aL⟩, ty, pos, after, guard⟩ :: rest) R s :=
 Nd k i hw hm aq aJ hp af (.inl hq) hi aj ek hd h
theorem GZ (k i : Nat) {dst : Option Nat} {f : FuncId} {g : Operand} {aL : Array TypeId} {l : List Operand} {args : List ah} {cs : List AC} {r : bG} {post : ah → List AC → bG → Prop} [E : Enters P f] (hw : want ops ⟨dst, .call ⟨.value g, l.toArray, aL⟩, ty, pos, after, guard⟩ s = some true) (hm : dW dr ⟨dst, .call ⟨.value g, l.toArray, aL⟩, ty, pos, after, guard⟩ = true)
  (aq : s.look g = some (aR (.func (.func f) #[] #[]))) (aJ : l.map s.look = (ah.w (.one (.own k 0)) :: args).map some) (hp : ql P f args cs r post) (af : s.mem k = some cs) (hq : ∀ v au aX, post v au aX → au = cs) (hi : R i = some r) (aj : cs.all AC.aZ = true) (ek : args.all ah.aZ = true) (hd : kT dst s.n = true)
  (h : ∀ v au aX, post v au aX → cQ P ops dr K rest (bK R i aX) ((s.eh k au).put dst v)) : cQ P ops dr K (⟨dst, .call ⟨.value g, l.toArray, aL⟩, ty, pos, after, guard⟩ :: rest) R s :=
 Nd k i hw hm aq aJ hp af (.inr hq) hi aj ek hd h
theorem Uv {x : Operand} {d k off : Nat} {K : aA → Prop} (hw : want ops ⟨some d, .nilCheck x, ty, pos, after, guard⟩ s = some true) (aa : s.look x = some (.w (.one (.own k off)))) (hd : Nat.blt d s.n = true) (h : bb P ops K rest (s.put (some d) (.w (.one (.own k off))))) : bb P ops K (⟨some d, .nilCheck x, ty, pos, after, guard⟩ :: rest) s := by
 refine fN hw ⟨fun _ _ h => (by cases h), fun y ai => ?_, fun U ad W env he => ?_, fun j ae => ⟨x, by simp [Op.operands], _, aa, ae⟩⟩ hd h
 ·simp [Op.operands] at ai;subst ai;exact ⟨_, aa⟩
 ·have hv : env x = .pointer (some ⟨ad k, off, none⟩) := he x (by simp [Op.operands]) _ aa;exact ⟨_, by simp only [execOp, hv]; rfl, rfl⟩
end
section
variable {P : Program}
theorem eu {n : Nat} {cs : List AC} (h : Nat.ble n 1000 = true) : ∀ k au, cN 1000 cs k = some au → n ≤ k := fun k au af => by
 obtain ⟨rfl, _⟩ := hK af;exact dq h
theorem nP {n : Nat} : ∀ k au, ca k = some au → n ≤ k := fun k au af => by cases af
theorem qE {fn : Func} {l : List ResultVar} {xs : List bz} {R : aI} {s : aA} {cs au : List AC} {r aX : bG} {post : ah → List AC → bG → Prop} (ap : fn.results = l.toArray) (h : l.map (iK P s) = xs.map some) (af : s.mem 1000 = some au) (hi : R 0 = some aX) (aj : au.all AC.aZ = true) (aa : (packed xs).aZ = true)
  (hp : post (packed xs) au aX) : tv P fn (cN 1000 cs) (br 0 r) (fun v aG ay => ∃ au aX, aG = cN 1000 au ∧ ay = br 0 aX ∧ post v au aX) R s := by
 refine ⟨xs, packed xs, cN 1000 au, br 0 aX, by rw [ap]; exact h, .refl _, ⟨au, aX, rfl, rfl, hp⟩, fun k c h => ?_, fun i q h => ?_, fun j ae => absurd ae (ah.du aa j), fun k c x j h aa ae => ?_, fun k c h => ?_, fun i q h => ?_⟩
 ·obtain ⟨rfl, rfl⟩ := hK h; exact af
 ·obtain ⟨rfl, rfl⟩ := fK h; exact hi
 ·obtain ⟨rfl, rfl⟩ := hK h; exact absurd ae (AC.du (cB.1 aj x aa) j)
 ·obtain ⟨rfl, rfl⟩ := hK h; exact ⟨au, by unfold cN; exact cx _ _ _⟩
 ·obtain ⟨rfl, rfl⟩ := fK h; exact ⟨aX, by unfold br; exact cx _ _ _⟩
def AC.xy (k : Nat) : AC → Bool
 | .own j _ => Nat.beq j k
 | _ => true
def ah.xy (k : Nat) : ah → Bool
 | .w x => x.cells.all (AC.xy k)
 | .cr xs => xs.all fun x => x.cells.all (AC.xy k)
theorem ah.acn {k j : Nat} {x : ah} (h : x.xy k = true) (ae : x.owns j) : j = k := by
 have key : ∀ y : bz, y.cells.all (AC.xy k) = true → y.owns j → j = k := by
  rintro y ai ⟨z, aP, zx⟩;have := cB.1 ai z aP;cases z with
  | own i o => cases zx; exact hb this
  | c v => cases zx
  | p R => cases zx
 cases x with
 | w y => exact key y h ae
 | cr xs =>
  obtain ⟨y, ai, l0⟩ := ae;exact key y (cB.1 h y ai) l0
end
abbrev ag1 : ah := aR (.slice none 0 0)
theorem O1 (z : Nat) : ag1.aQ (cy z 0 []) := fun U ad W v h => by
 obtain ⟨rfl, _⟩ := h;exact ⟨⟨none, 0, rfl, dJ _, by simp, fun h => absurd h (Nat.lt_irrefl _)⟩, fun b ⟨c, a, q, ax, _⟩ => absurd ax (Nat.lt_irrefl _)⟩
section
variable {P : Program} {R : aI} {s : aA} {ops : Array Oper} {dr : Option (List Nat)} {ty : Nat} {pos : String} {after : Array Edge} {guard : Option (Nat × Bool)} {K : aI → aA → Prop} {rest : List Oper}
end
end Go.Proofs.YtbcecodakfejaaaGreat
namespace Go.Proofs.YtbcecodakfejaaaGreat
def gU : List Int → Int → Int
 | [], x => x
 | d :: ds, x => d + 10000 * gU ds x
def bQ (ds : List Int) : Int := gU ds 0
def dD (ds : List Int) : Prop := ∀ d ∈ ds, 0 ≤ d ∧ d < 10000
def hi (ds : List Int) (k : Nat) : Int := bQ (ds.drop k)
def qk (ds : List Int) : Prop := 0 < ds.length → ds.getD (ds.length - 1) 0 ≠ 0
theorem Fz (a b : List Int) (x : Int) : gU (a ++ b) x = gU a (gU b x) := by
 induction a with
 | nil => rfl
 | cons d ds b5 => simp only [List.cons_append, gU, b5]
theorem wJ (a : List Int) (d x : Int) : gU (a ++ [d]) x = gU a (d + 10000 * x) := Fz a [d] x
theorem dD.tail {d : Int} {ds : List Int} (h : dD (d :: ds)) : dD ds := fun x aa => h x (o4 _ aa)
theorem dD.head {d : Int} {ds : List Int} (h : dD (d :: ds)) : 0 ≤ d ∧ d < 10000 := h d k6
theorem dD.nil : dD [] := fun d h => by cases h
theorem dD.snoc {ds : List Int} {d : Int} (h : dD ds) (aD : 0 ≤ d) (h1 : d < 10000) : dD (ds ++ [d]) := by
 intro x aa;rcases kr.1 aa with k | k
 ·exact h x k
 ·obtain rfl : x = d := by simpa using k
  exact ⟨aD, h1⟩
theorem dD.take {ds : List Int} (h : dD ds) (k : Nat) : dD (ds.take k) := fun x aa => h x (nB aa)
theorem dD.drop {ds : List Int} (h : dD ds) (k : Nat) : dD (ds.drop k) := fun x aa => h x (mO aa)
theorem dD.set {ds : List Int} (h : dD ds) (k : Nat) {d : Int} (aD : 0 ≤ d) (h1 : d < 10000) : dD (ds.set k d) := by
 intro x aa;rcases List.mem_or_eq_of_mem_set aa with k | k
 ·exact h x k
 ·exact k ▸ ⟨aD, h1⟩
theorem dD.getD {ds : List Int} (h : dD ds) (k : Nat) : 0 ≤ ds.getD k 0 ∧ ds.getD k 0 < 10000 := by
 by_cases e : k < ds.length
 ·rw [gy, bN e];exact h _ (List.getElem_mem e)
 ·rw [gy, k7 (by omega)];exact ⟨by decide, by decide⟩
theorem V4 {a : List Int} (h : dD a) {x : Int} (aa : x < 0) : gU a x < 0 := by
 induction a with
 | nil => exact aa
 | cons d ds b5 => have := h.head; have := b5 h.tail; simp only [gU]; omega
theorem V5 {a : List Int} (h : dD a) {x : Int} (aa : 0 ≤ x) : 0 ≤ gU a x := by
 induction a with
 | nil => exact aa
 | cons d ds b5 => have := h.head; have := b5 h.tail; simp only [gU]; omega
theorem wI {a : List Int} (h : dD a) : 0 ≤ bQ a := V5 h (by omega)
theorem Yc {a : List Int} (h : dD a) (k : Nat) : 0 ≤ hi a k := wI (h.drop k)
theorem BN (d : Int) (ds : List Int) : bQ (d :: ds) = d + 10000 * bQ ds := rfl
theorem Lu : bQ [] = 0 := rfl
theorem r1 (a : List Int) : hi a 0 = bQ a := rfl
theorem nk (a : List Int) (k : Nat) : hi a k = a.getD k 0 + 10000 * hi a (k + 1) := by
 unfold hi
 by_cases e : k < a.length
 ·rw [mN e, BN, gy, bN e]; rfl
 ·rw [List.drop_eq_nil_of_le (by omega), List.drop_eq_nil_of_le (by omega), gy, k7 (by omega)]; rfl
theorem r0 (a : List Int) {k : Nat} (h : a.length ≤ k) : hi a k = 0 := by
 unfold hi; rw [List.drop_eq_nil_of_le h]; rfl
theorem V1 (a : List Int) (k : Nat) : gU (a.take k) (hi a k) = bQ a := by
 unfold hi bQ; rw [← Fz, j2]
theorem V0 {ds : List Int} (h : dD ds) : bQ ds < 10000 ^ ds.length := by
 induction ds with
 | nil => decide
 | cons d ds b5 => have := h.head; have := b5 h.tail; rw [BN, iI, oa]; omega
theorem Qn (k : Nat) : (0 : Int) < 10000 ^ k := hO (by decide)
theorem Qm {k j : Nat} (h : k ≤ j) : (10000 : Int) ^ k ≤ 10000 ^ j := by
 obtain ⟨d, rfl⟩ := Nat.exists_eq_add_of_le h;clear h
 induction d with
 | zero => exact n7 _
 | succ d b5 => have := Qn (k + d); rw [← o5, oa]; omega
theorem abJ {ds : List Int} (h : dD ds) (n : qk ds) (k : Nat) (e : ds.length = k + 1) : (10000 : Int) ^ k ≤ bQ ds := by
 induction ds generalizing k with
 | nil => cases e
 | cons d ds b5 =>
  rw [BN];have aU := h.head;cases k with
  | zero =>
   obtain rfl : ds = [] := kt (by simpa using e);have := n (by simp);simp at this;show (1 : Int) ≤ _;rw [Lu];omega
  | succ k =>
   have ak : ds.length = k + 1 := by simpa using e
   have n' : qk ds := by
    intro hp;have := n (by simp);rw [iI, ak] at this;rw [ak];simpa using this
   have := b5 h.tail n' k ak;rw [oa];omega
theorem O2 {ds : List Int} (h : dD ds) (n : qk ds) {k : Nat} (af : bQ ds < 10000 ^ k) : ds.length ≤ k := by
 rcases hz k ds.length with bg | kE
 ·exfalso;obtain ⟨j, ae⟩ : ∃ j, ds.length = j + 1 := ⟨ds.length - 1, by omega⟩;have h1 := abJ h n j ae;have h2 : (10000 : Int) ^ k ≤ 10000 ^ j := Qm (by omega);omega
 ·exact kE
theorem abL {ds : List Int} (h : dD ds) (n : qk ds) (e : bQ ds = 0) : ds = [] := by
 have := O2 h n (k := 0) (by rw [e]; decide);exact kt (by omega)
theorem O3 : qk [] := fun h => by cases h
theorem Rw (k : Nat) : ∀ {a b : List Int}, dD a → dD b → a.getD k 0 < b.getD k 0 → hi a (k + 1) = hi b (k + 1) → bQ a < bQ b := by
 induction k with
 | zero =>
  intro a b aJ ab h e;have h1 := nk a 0; have h2 := nk b 0;rw [r1] at h1 h2;have := aJ.getD 0; have := ab.getD 0;simp only [jd] at *;omega
 | succ k b5 =>
  intro a b aJ ab h e;have h1 := nk a 0; have h2 := nk b 0;rw [r1] at h1 h2;have t1 : hi a (0 + 1) = bQ (a.drop 1) := rfl;have t2 : hi b (0 + 1) = bQ (b.drop 1) := rfl
  have := b5 (aJ.drop 1) (ab.drop 1) (by
   rw [gy, gy, fV, fV, o6 1 k];rw [gy, gy] at h;exact h) (by
   unfold hi at *;rw [List.drop_drop, List.drop_drop, o6 1 (k + 1)];exact e)
  have := aJ.getD 0; have := ab.getD 0;omega
theorem aeg {out a b : List Int} {k : Nat} {c : Int} {T : Int} (h : gU out (c + hi a k + hi b k) = T) :
  gU (out ++ [(c + a.getD k 0 + b.getD k 0) % 10000]) ((c + a.getD k 0 + b.getD k 0) / 10000 + hi a (k + 1) + hi b (k + 1)) = T := by
 rw [wJ, ← h];congr 1;have := nk a k; have := nk b k;omega
theorem abb {out a b : List Int} {k : Nat} {c x : Int} {T : Int} (h : gU out (hi a k - hi b k - c) = T) {c' : Int} (aa : x - 10000 * c' = a.getD k 0 - b.getD k 0 - c) :
  gU (out ++ [x]) (hi a (k + 1) - hi b (k + 1) - c') = T := by
 rw [wJ, ← h];congr 1;have := nk a k; have := nk b k;omega
theorem aa7 {out a b : List Int} {c : Int} (az : dD out) (ab : dD b) (aj : 0 ≤ c) (hle : bQ b ≤ bQ a) (h : gU out (hi a a.length - hi b a.length - c) = bQ a - bQ b) : bQ out = bQ a - bQ b := by
 rw [r0 a (dJ _)] at h;have h1 := Yc ab a.length
 by_cases e : hi b a.length + c = 0
 ·rw [show (0 - hi b a.length - c) = 0 by omega] at h;exact h
 ·have := V4 az (x := 0 - hi b a.length - c) (by omega);omega
end Go.Proofs.YtbcecodakfejaaaGreat
namespace Go.Proofs.YtbcecodakfejaaaGreat
theorem WS {o : List Int} {k : Nat} (af : k < o.length) (d : Int) : (o.set k d).getD k 0 = d := by
 rw [gy, List.getElem?_set_self af]; rfl
theorem getD_set_ne {o : List Int} {k j : Nat} (h : k ≠ j) (d : Int) : (o.set k d).getD j 0 = o.getD j 0 := by
 rw [gy, List.getElem?_set_ne h, gy]
theorem Yd {o : List Int} {k j : Nat} (h : k < j) (d : Int) : hi (o.set k d) j = hi o j := by
 unfold hi; rw [List.drop_set_of_lt h]
theorem RI {o : List Int} {k j : Nat} (h : j ≤ k) (d : Int) : (o.set k d).take j = o.take j := by
 rw [List.take_set_of_le h]
theorem IZ {o : List Int} {k : Nat} (h : k < o.length) : o.take (k + 1) = o.take k ++ [o.getD k 0] := by
 rw [j3 h, gy, bN h]; rfl
def qT (o : List Int) (i k : Nat) : List Int := (o.drop i).take k
theorem aa6 {o : List Int} {i k : Nat} (h : i + k < o.length) : qT o i (k + 1) = qT o i k ++ [o.getD (i + k) 0] := by
 unfold qT;rw [IZ (by rw [h3]; omega)];congr 2;rw [gy, fV, gy]
theorem aa5 {o : List Int} {i k : Nat} (d : Int) : qT (o.set (i + k) d) i k = qT o i k := by
 unfold qT;rw [List.drop_set, if_neg (by omega), RI (by omega)]
theorem mid_zero (o : List Int) (i : Nat) : qT o i 0 = [] := rfl
theorem Yb (o : List Int) (i k : Nat) : gU (qT o i k) (hi o (i + k)) = hi o i := by
 unfold qT hi bQ;rw [← List.drop_drop, ← Fz, j2]
def sV (o : List Int) (i k : Nat) (c x : Int) (b : List Int) (T : Int) : Prop := gU (qT o i k) (hi o (i + k) + c + x * hi b k) = T
theorem abn (o : List Int) (i : Nat) (x : Int) (b : List Int) : sV o i 0 0 x b (hi o i + x * bQ b) := by
 unfold sV;rw [mid_zero, r1];show hi o i + 0 + x * bQ b = _;rw [Int.add_zero]
theorem abo {o : List Int} {i k : Nat} {c x : Int} {b : List Int} {T : Int} (h : sV o i k c x b T) (af : i + k < o.length) {s : Int} (hs : s = c + o.getD (i + k) 0 + x * b.getD k 0) :
  sV (o.set (i + k) (s % 10000)) i (k + 1) (s / 10000) x b T := by
 unfold sV at *;rw [aa6 (by rw [List.length_set]; exact af), aa5, WS af, wJ, ← h, Yd (by omega)];congr 1;have h1 := nk o (i + k);have h2 := nk b k;have an : x * hi b k = x * b.getD k 0 + 10000 * (x * hi b (k + 1)) := by rw [h2, Int.mul_add, Int.mul_left_comm]
 rw [an, ← o5];generalize x * hi b (k + 1) = u at *;generalize x * b.getD k 0 = v at *;omega
theorem abm {o : List Int} {i k : Nat} {x : Int} {b : List Int} {T : Int} (h : sV o i k 0 x b T) (af : b.length ≤ k) : hi o i = T := by
 unfold sV at h;rw [r0 b af, Int.mul_zero, Int.add_zero, Int.add_zero, Yb] at h;exact h
def sW (o a b : List Int) (i : Nat) : Prop := gU (o.take i) (hi o i + hi a i * bQ b) = bQ a * bQ b
theorem abq {o a b : List Int} (h : bQ o = 0) : sW o a b 0 := by
 unfold sW;rw [r1, r1, h, Int.zero_add]; rfl
theorem abr {o eV a b : List Int} {i : Nat} (h : sW o a b i) (ak : i < eV.length) (aB : eV.take i = o.take i) (he : hi eV i = hi o i + a.getD i 0 * bQ b) : sW eV a b (i + 1) := by
 unfold sW at *;rw [IZ ak, wJ, aB, ← h];congr 1;have h1 := nk eV i;have h2 : hi a i * bQ b = a.getD i 0 * bQ b + 10000 * (hi a (i + 1) * bQ b) := by rw [nk a i, Int.add_mul, kv]
 rw [h2];generalize hi a (i + 1) * bQ b = u at *;generalize a.getD i 0 * bQ b = v at *;omega
theorem abp {o a b : List Int} {i : Nat} (h : sW o a b i) (ak : a.length ≤ i) : bQ o = bQ a * bQ b := by
 unfold sW at h;rw [r0 a ak, Int.zero_mul, Int.add_zero, V1] at h;exact h
theorem V2 (n : Nat) : bQ (List.replicate n 0) = 0 := by
 induction n with
 | zero => rfl
 | succ n b5 => rw [List.replicate_succ, BN, b5]; rfl
theorem ZF (n : Nat) : dD (List.replicate n 0) := by
 intro d hd;obtain rfl : d = 0 := List.eq_of_mem_replicate hd;exact ⟨by decide, by decide⟩
theorem WT (n k : Nat) : (List.replicate n (0 : Int)).getD k 0 = 0 := by
 rw [gy, List.getElem?_replicate]
 split <;> rfl
theorem Lq {x y : Int} (aa : 0 ≤ x ∧ x < 10000) (ai : 0 ≤ y ∧ y < 10000) : 0 ≤ x * y ∧ x * y ≤ 99980001 := by
 refine ⟨gM aa.1 ai.1, ?_⟩;have h1 : x * y ≤ 9999 * y := n8 (by omega) ai.1;omega
def hP (neg : Bool) (n : Int) : Int := if neg then -n else n
theorem Rq (n : Int) : hP false n = n := rfl
theorem IK (n : Int) : hP true n = -n := rfl
structure Std (neg : Bool) (ds : List Int) (n : Int) : Prop where
 dg : dD ds
 vC : qk ds
 sign : neg = true → ds ≠ []
 val : n = hP neg (bQ ds)
theorem Std.pos {neg : Bool} {ds : List Int} {n : Int} (h : Std neg ds n) (ax : ds ≠ []) : 0 < bQ ds := by
 have h1 := wI h.dg;rcases Int.lt_or_eq_of_le h1 with k | k
 ·exact k
 ·exact absurd (abL h.dg h.vC k.symm) ax
theorem Std.HP {neg : Bool} {ds : List Int} {n : Int} (h : Std neg ds n) : neg = decide (n < 0) := by
 have h1 := wI h.dg;have hv := h.val;cases neg with
 | false => rw [Rq] at hv; symm; rw [k5]; omega
 | true => have := h.pos (h.sign rfl); rw [IK] at hv; symm; rw [cq]; omega
theorem Std.abs {neg : Bool} {ds : List Int} {n : Int} (h : Std neg ds n) : bQ ds = n.natAbs := by
 have h1 := wI h.dg;have hv := h.val;cases neg with
 | false => rw [Rq] at hv; omega
 | true => rw [IK] at hv; omega
theorem Std.len {neg : Bool} {ds : List Int} {n : Int} (h : Std neg ds n) {k : Nat} (af : (n.natAbs : Int) < 10000 ^ k) : ds.length ≤ k := O2 h.dg h.vC (by rw [h.abs]; exact af)
theorem ags {neg : Bool} {ds : List Int} {k : Nat} (hd : dD ds) (hv : bQ (ds.take k) = bQ ds) (ax : qk (ds.take k)) : Std (neg && decide (0 < (ds.take k).length)) (ds.take k) (hP neg (bQ ds)) := by
 refine ⟨hd.take k, ax, fun h => ?_, ?_⟩
 ·simp only [dc, cq] at h;intro e;rw [e] at h;exact absurd h.2 (by decide)
 ·rw [hv]
  by_cases e : 0 < (ds.take k).length
  ·rw [cw e, Bool.and_true]
  ·have : ds.take k = [] := kt (by omega);rw [this, Lu] at hv;rw [← hv];cases neg <;> simp [hP]
end Go.Proofs.YtbcecodakfejaaaGreat
namespace Go.Proofs.YtbcecodakfejaaaGreat
open Go.RowKit
def e2 (w : World) (A : Option Addr) (l c : Nat) (ds : List Int) : Prop :=
 ds.length = l ∧ l ≤ c ∧ c ≤ 9223372036854775807 ∧ (0 < l → ∃ g, A = some ⟨g, 0, none⟩ ∧ g < w.heap.size ∧ ∀ j, j < l → w.cell? ⟨g, j, none⟩ = some (.int .i64 (ds.getD j 0)))
theorem e2.call {w w' : World} {A : Option Addr} {l c : Nat} {ds : List Int} (h : e2 w A l c ds) (ab : Below w.heap.size w w') : e2 w' A l c ds := by
 obtain ⟨h1, h2, an, k⟩ := h;refine ⟨h1, h2, an, fun bU => ?_⟩;obtain ⟨g, rfl, aq, aj⟩ := k bU;exact ⟨g, rfl, pW aq ab.size, fun j ae => (ab.cell (p := ⟨g, j, none⟩) aq).trans (aj j ae)⟩
theorem e2.alloc {w : World} {A : Option Addr} {l c : Nat} {ds : List Int} (h : e2 w A l c ds) (o : Obj) : e2 (w.alloc o) A l c ds := h.call ((Below.refl _ _).alloc (dJ _) o)
theorem e2.nil {w : World} {A : Option Addr} {c : Nat} (aj : c ≤ 9223372036854775807) : e2 w A 0 c [] := ⟨rfl, dC _, aj, fun h => absurd h (by omega)⟩
theorem e2.take {w : World} {A : Option Addr} {l c : Nat} {ds : List Int} (h : e2 w A l c ds) {k : Nat} (af : k ≤ l) : e2 w A k c (ds.take k) := by
 obtain ⟨h1, h2, an, aE⟩ := h;refine ⟨by rw [dK]; omega, by omega, an, fun hp => ?_⟩;obtain ⟨g, e, aq, aj⟩ := aE (by omega);refine ⟨g, e, aq, fun j ae => ?_⟩;rw [aj j (by omega), gy, gy, fE ae]
theorem e2.own {w : World} {base : Nat} {v : Value} {n : Nat} {ds : List Int} (h : w.ownsRow base 3 1 v n (ds.map (Value.int .i64))) : ∃ A c, v = .slice A n c ∧ e2 w A n c ds := by
 have ak : ds.length = n := by have := h.1; simpa using this
 have aU := h;rcases h.2 with ⟨rfl, rfl⟩ | ⟨g, cap, cur, rfl, ab, aq, ax, hm, hs, aB⟩
 ·exact ⟨none, 0, rfl, ak, dJ _, by omega, fun k => absurd k (by omega)⟩
 ·refine ⟨_, cap, rfl, ak, ax, by simpa [maxLen] using hm, fun _ => ⟨g, rfl, (jv.1 aq).1, fun j ae => ?_⟩⟩;rw [aU.cellAt j (by omega), eg, bN (by omega), gy, bN (by omega)];rfl
def eR (w : World) (neg : Bool) (A : Option Addr) (l c : Nat) (n : Int) : Prop := ∃ ds, e2 w A l c ds ∧ Std neg ds n
theorem eR.HP {w : World} {neg : Bool} {A : Option Addr} {l c : Nat} {n : Int} (h : eR w neg A l c n) : neg = decide (n < 0) := by
 obtain ⟨ds, h1, h2⟩ := h;exact h2.HP
theorem eR.len {w : World} {neg : Bool} {A : Option Addr} {l c : Nat} {n : Int} (h : eR w neg A l c n) {k : Nat} (af : (n.natAbs : Int) < 10000 ^ k) : l ≤ k := by
 obtain ⟨ds, h1, h2⟩ := h;rw [← h1.1];exact h2.len af
def Fr (b : Nat) (A : Option Addr) : Prop := ∀ a, A = some a → b ≤ a.block
def rz (n : Int) (w : World) (e : Ending) (w' : World) : Prop := ∃ neg A l c, e = .returned (.agg #[.bool neg, .slice A l c]) ∧ eR w' neg A l c n ∧ Below w.heap.size w w' ∧ Fr w.heap.size A
def Bg (n : Int) (k : Nat) (w : World) (e : Ending) (w' : World) : Prop := ∃ A l c ds, e = .returned (.slice A l c) ∧ e2 w' A l c ds ∧ dD ds ∧ bQ ds = n ∧ l ≤ k ∧ Below w.heap.size w w' ∧ Fr w.heap.size A
def JG (n : Int) (A : Option Addr) (c : Nat) (w : World) (e : Ending) (w' : World) : Prop := ∃ neg l, e = .returned (.agg #[.bool neg, .slice A l c]) ∧ eR w' neg A l c n ∧ Below w.heap.size w w'
theorem Fr.own {w : World} {base : Nat} {t : TypeId} {A : Option Addr} {n c : Nat} {xs : List Value} (h : w.ownsRow base t 1 (.slice A n c) n xs) : Fr base A := fun a e => by
 subst e;exact (h.lt a.block rfl).1
theorem Bv (w : World) : Calls ag 116 #[] w fun e w' => e = .returned (.int .i64 10000) ∧ w = w' := by
 go_enter Tryz.func116, Tryz.ntmps116
 go_wp2
 go_ret
 exact ⟨rfl, rfl⟩
theorem wH (A : Option Addr) (l c : Nat) (ds : List Int) (k : Nat) (w : World) (h : e2 w A l c ds) (ak : l ≤ 1000) (af : k ≤ 1000) :
  Calls ag 115 #[.slice A l c, .int .i64 k] w fun e w' => e = .returned (.int .i64 (ds.getD k 0)) ∧ w = w' := by
 obtain ⟨h1, h2, an, aE⟩ := h
 by_cases bg : k < l
 ·obtain ⟨g, rfl, aq, jn⟩ := aE (by omega);have eL := jn k bg;generalize ds.getD k 0 = d at *;clear aE jn h1
  go_enter Tryz.func115, Tryz.ntmps115
  go_wp2
  go_ret
  exact ⟨rfl, rfl⟩
 ·have lP : Hid (ds.getD k 0 = 0) := by unfold Hid; simp [gy, k7 (show ds.length ≤ k by omega)]
  clear aE h1
  go_enter Tryz.func115, Tryz.ntmps115
  go_wp2
  go_ret
  rw [lP.out];exact ⟨rfl, rfl⟩
end Go.Proofs.YtbcecodakfejaaaGreat
namespace Go.Proofs.YtbcecodakfejaaaGreat
open Go.RowKit
def KZ : Value → Nat
 | .slice _ k _ => k
 | _ => 0
theorem Iy {neg : Bool} {A : Option Addr} {l c k : Nat} {ds : List Int} {w w' : World} (h : e2 w A l c ds) (hd : dD ds) (af : k ≤ l) (hv : bQ (ds.take k) = bQ ds) (aP : 0 < k → ds.getD (k - 1) 0 ≠ 0)
  (ab : Below w.heap.size w w') {x : Bool} (aa : x = (neg && decide (0 < k))) : JG (hP neg (bQ ds)) A c w (.returned (.agg #[.bool x, .slice A k c])) w' := by
 have ak : (ds.take k).length = k := by rw [dK, h.1]; omega
 have ax : qk (ds.take k) := by
  intro hp;rw [ak] at hp ⊢;rw [gy, fE (by omega), ← gy];exact aP hp
 have hs := ags (neg := neg) hd hv ax;rw [ak] at hs;exact ⟨_, _, by rw [aa], ⟨_, (h.take af).call ab, hs⟩, ab⟩
theorem agM {ds : List Int} {k l : Nat} (ak : ds.length = l) (af : k + 1 ≤ l) (hv : bQ (ds.take (k + 1)) = bQ ds) (aP : ds.getD k 0 = 0) : bQ (ds.take k) = bQ ds := by
 rw [IZ (by omega), aP] at hv;unfold bQ at *;rw [wJ] at hv;simpa using hv
theorem AA (neg : Bool) (A : Option Addr) (l c : Nat) (ds : List Int) (w : World) (h : e2 w A l c ds) (hd : dD ds) (ak : l ≤ 1000) :
  Calls ag 110 #[.agg #[.bool neg, .slice A l c]] w (JG (hP neg (bQ ds)) A c w) := by
 obtain ⟨h1, h2, an, aE⟩ := id h
 have bg : ∀ k, k + 1 ≤ l → ∃ g, A = some ⟨g, 0, none⟩ ∧ g < w.heap.size ∧ w.cell? ⟨g, k, none⟩ = some (.int .i64 (ds.getD k 0)) := fun k af => by
  obtain ⟨g, e, aq, aj⟩ := aE (by omega);exact ⟨g, e, aq, aj k (by omega)⟩
 have H1 := Lib.hid h1;have ED := Lib.hid bg;clear h1 bg aE
 go_enter Tryz.func110, Tryz.ntmps110
 go_wp2
 go_loop [3] (fun d => ∃ k : Nat, k ≤ l ∧ d = .slice A k c ∧ Hid (bQ (ds.take k) = bQ ds)) (fun d => KZ d)
 case atStart => exact ⟨l, dJ _, rfl, by unfold Hid; rw [gn (by rw [H1.out]; omega)]⟩
 case round =>
  obtain ⟨k, af, rfl, hv⟩ := hrel;rcases k with _ | k
  ·go_wp2
   all_goals
    refine bodyPost_ret (v := .agg #[.bool false, .slice A 0 c]) (by simp only [results, Tryz.results110]; go_simp) rfl (Iy h hd af hv.out (fun h => absurd h (by omega)) ?_ (by simp));(repeat first | with_reducible exact Below.refl _ _ | with_reducible refine dV ?_ _)
  ·obtain ⟨g, rfl, aq, aj⟩ := ED.out k af
   by_cases aP : ds.getD k 0 = 0
   ·have bR : Hid (bQ (ds.take k) = bQ ds) := agM H1.out af hv.out aP;rw [aP] at aj;clear aP
    go_wp2
    go_round
    case rel => exact ⟨k, by omega, by simp, bR⟩
    case measure => simp [KZ]
   ·have tG := Lib.hid aP;have bU : (ds.getD k 0 == 0) = false := by simpa using aP
    clear aP;generalize yW : ds.getD k 0 = d at aj bU;have mW := Lib.hid yW;clear yW
    go_wp2
    ·refine bodyPost_ret (v := .agg #[.bool true, .slice (some ⟨g, 0, none⟩) (k + 1) c]) (by simp only [results, Tryz.results110]; go_simp) rfl (Iy (neg := true) h hd af hv.out (fun _ => tG.out) ?_ (by simp));(repeat first | with_reducible exact Below.refl _ _ | with_reducible refine dV ?_ _)
    ·refine bodyPost_ret (v := .agg #[.bool false, .slice (some ⟨g, 0, none⟩) (k + 1) c]) (by simp only [results, Tryz.results110]; go_simp) rfl (Iy (neg := false) h hd af hv.out (fun _ => tG.out) ?_ (by simp));(repeat first | with_reducible exact Below.refl _ _ | with_reducible refine dV ?_ _)
theorem agN (neg : Bool) (A : Option Addr) (l c : Nat) (ds : List Int) (w : World) (h : e2 w A l c ds) (hd : dD ds) (ak : l ≤ 1000) :
  Calls ag 110 #[.agg #[.bool neg, .slice A l c]] w fun e w' => ∃ x cb, e = .returned (.agg #[.bool x, .slice A cb c]) ∧ eR w' x A cb c (hP neg (bQ ds)) ∧ cb ≤ l ∧ Below w.heap.size w w' :=
 (AA neg A l c ds w h hd ak).mono fun _ _ ⟨x, cb, h1, h2, an⟩ => ⟨x, cb, h1, h2, h2.len (by
  have a := V0 hd;have b := wI hd;rw [h.1] at a;cases neg <;> simp only [hP, if_true, nD, if_false] <;> omega), an⟩
end Go.Proofs.YtbcecodakfejaaaGreat
namespace Go.Proofs.YtbcecodakfejaaaGreat
open Go.RowKit
theorem Nx {a b : Int} (h : a < b) : b9 a b = -1 := by unfold b9; rw [if_neg (by omega), if_pos h]
theorem Nw {a b : Int} (h : b < a) : b9 a b = 1 := by unfold b9; rw [if_neg (by omega), if_neg (by omega)]
theorem Zo {a b : Int} (h : a = b) : b9 a b = 0 := by unfold b9; rw [if_pos h]
theorem Ea (A B : Option Addr) (l c m d : Nat) (ds es : List Int) (w : World) (h : e2 w A l c ds) (k : e2 w B m d es) (hd : dD ds) (he : dD es) (ak : l ≤ 1000) (hm : m ≤ 1000) :
  Calls ag 112 #[.slice A l c, .slice B m d] w fun e w' => e = .returned (.int .i64 (b9 (bQ ds) (bQ es))) ∧ w = w' := by
 have H1 := Lib.hid h.1;have c9 := Lib.hid k.1;have kY := Lib.hid hd;have nV := Lib.hid he;have hs := Lib.hid h;have zJ := Lib.hid k;clear hd he h k
 go_enter Tryz.func112, Tryz.ntmps112
 go_wp2
 all_goals
  go_loop [5] (fun i => ∃ k : Nat, i = .int .i64 ((k : Int) - 1) ∧ k ≤ 1000 ∧ Hid (hi ds k = hi es k)) (fun i => (intOf i + 1).toNat)
  case atStart => first
   | exact ⟨l, rfl, by omega, by unfold Hid; rw [r0 ds (by rw [H1.out]; omega), r0 es (by rw [c9.out]; omega)]⟩
   | exact ⟨m, rfl, by omega, by unfold Hid; rw [r0 ds (by rw [H1.out]; omega), r0 es (by rw [c9.out]; omega)]⟩
  case round =>
   obtain ⟨k, rfl, af, aU⟩ := hrel;rcases k with _ | k
   ·rw [show (((0 : Nat) : Int) - 1) = -1 from rfl]
    go_wp2
    go_ret
    exact ⟨ui (Zo aU.out).symm, rfl⟩
   ·rw [show (((k + 1 : Nat) : Int) - 1) = (k : Int) by omega];have g1 := kY.out.getD k;have g2 := nV.out.getD k;have aF := fun h => Rw k kY.out nV.out h aU.out;have aM := fun h => Rw k nV.out kY.out h aU.out.symm;have cg : ds.getD k 0 = es.getD k 0 → hi ds k = hi es k := fun h => by rw [nk ds k, nk es k, h, aU.out]
    have c1 := fun w h => wH A l c ds k w h ak (by omega);have c2 := fun w h => wH B m d es k w h hm (by omega);have jE := Lib.hid aF;have x1 := Lib.hid aM;have Sx := Lib.hid cg;have aT := Lib.hid c1;have bH := Lib.hid c2;clear aF aM cg c1 c2;generalize ds.getD k 0 = x at *;generalize es.getD k 0 = y at *
    go_wp2_with (go_at_call 115; first | ((with_reducible refine (aT.out _ hs.out).mono ?_); rintro e w' ⟨rfl, rfl⟩) | ((with_reducible refine (bH.out _ zJ.out).mono ?_); rintro e w' ⟨rfl, rfl⟩))
    ·go_ret
     exact ⟨ui (Nx (jE.out (by assumption))).symm, rfl⟩
    ·go_ret
     exact ⟨ui (Nw (x1.out (by assumption))).symm, rfl⟩
    ·go_round
     case rel => exact ⟨k, rfl, by omega, Sx.out (by omega)⟩
     case measure => simp [intOf]
end Go.Proofs.YtbcecodakfejaaaGreat
namespace Go.Proofs.YtbcecodakfejaaaGreat
open Go.RowKit
theorem zA : (ag.info? 3).map (fun i => (i.zero, i.size, i.bytes)) = some (some (.int .i64 0), 1, 8) := by kernel_rfl
structure yc (w wr : World) (ds es : List Int) (l m : Nat) (v : Value) (c : Int) (k : Nat) (os : List Int) : Prop where
 gT : 0 ≤ c
 c1 : c ≤ 1
 len : os.length = k
 dg : dD os
 val : gU os (c + hi ds k + hi es k) = bQ ds + bQ es
 more : 0 < c → k ≤ l ∨ k ≤ m
 top : k ≤ l ∨ k ≤ m + 1 ∨ k ≤ l + 1
 own : wr.ownsRow w.heap.size 3 1 v k (os.map (Value.int .i64))
 below : Below w.heap.size w wr
theorem aef (w : World) (ds es : List Int) (l m : Nat) : yc w w ds es l m (.slice none 0 0) 0 0 [] :=
 ⟨by omega, by omega, rfl, dD.nil, by show (0 : Int) + _ + _ = _; rw [r1, r1]; omega, fun h => absurd h (by omega), .inl (dC _), World.ownsRow_nil _ _ _ _, Below.refl _ _⟩
theorem aee {w wr w1 : World} {ds es os : List Int} {l m k : Nat} {v v' : Value} {c : Int} {o : Obj} (h : yc w wr ds es l m v c k os) (ak : ds.length = l) (hm : es.length = m) (hd : dD ds) (he : dD es)
  (iB : k < l ∨ k < m ∨ 0 < c) {s : Int} (hs : s = c + ds.getD k 0 + es.getD k 0)
  (cp : w1.ownsRow w.heap.size 3 1 v' (k + 1) (os.map (Value.int .i64) ++ [.int .i64 (s % 10000)])) (aq : (wr.alloc o).grownBy w1 v.ownBlock) : yc w w1 ds es l m v' (s / 10000) (k + 1) (os ++ [s % 10000]) := by
 have g1 := hd.getD k;have g2 := he.getD k;have aD := h.gT; have h1 := h.c1; have Yp := h.more;have eW : l ≤ k → ds.getD k 0 = 0 := fun q => by simp [gy, k7 (show ds.length ≤ k by omega)]
 have z2 : m ≤ k → es.getD k 0 = 0 := fun q => by simp [gy, k7 (show es.length ≤ k by omega)]
 refine ⟨by omega, by omega, by rw [cJ, h.len]; rfl, h.dg.snoc (by omega) (by omega), by rw [hs]; exact aeg h.val, fun q => ?_, ?_, by rw [List.map_append]; exact cp, ?_⟩
 ·by_cases q1 : k < l
  ·exact .inl (by omega)
  ·by_cases q2 : k < m
   ·exact .inr (by omega)
   ·have := eW (by omega); have := z2 (by omega); omega
 ·rcases iB with q | q | q
  ·exact .inl (by omega)
  ·exact .inr (.inl (by omega))
  ·have := Yp q; omega
 ·refine (h.below.alloc h.below.size o).grown aq (by have := h.below.size; simp; omega) (fun j ae => (h.own.lt j ae).1)
theorem aed {w wr : World} {ds es os : List Int} {l m k : Nat} {v : Value} {c : Int} (h : yc w wr ds es l m v c k os) (ak : ds.length = l) (hm : es.length = m) (h1 : l ≤ k) (h2 : m ≤ k) (an : c ≤ 0) : Bg (bQ ds + bQ es) (max l m + 1) w (.returned v) wr := by
 obtain ⟨A, c', rfl, eK⟩ := e2.own h.own;have e : c = 0 := by have := h.gT; omega
 have hv := h.val;rw [e, r0 ds (by omega), r0 es (by omega)] at hv;exact ⟨A, k, c', os, rfl, eK, h.dg, hv, by have := h.top; omega, h.below, Fr.own h.own⟩
theorem afl (A B : Option Addr) (l c m d : Nat) (ds es : List Int) (w : World) (h : e2 w A l c ds) (k : e2 w B m d es) (hd : dD ds) (he : dD es) (ak : l ≤ 900) (hm : m ≤ 900) :
  Calls ag 111 #[.slice A l c, .slice B m d] w (Bg (bQ ds + bQ es) (max l m + 1) w) := by
 obtain ⟨i0, nj, km, nu, kn⟩ := info_parts zA;have H1 := Lib.hid h.1;have c9 := Lib.hid k.1;have kY := Lib.hid hd;have nV := Lib.hid he;have hs := Lib.hid h;have zJ := Lib.hid k;have pi := Lib.hid nj;have mY := Lib.hid km;have oo := Lib.hid nu;have oq := Lib.hid kn;clear hd he h k nj km nu kn
 go_enter Tryz.func111, Tryz.ntmps111
 go_wp2
 go_loopw [5, 6, 7] (fun v c i wr => ∃ (k : Nat) (dt : Int) (os : List Int), c = .int .i64 dt ∧ i = .int .i64 k ∧ yc w wr ds es l m v dt k os) (fun _ _ i _ => 2000 - (intOf i).toNat)
 case atStart => exact ⟨0, 0, [], rfl, rfl, aef w ds es l m⟩
 case round =>
  obtain ⟨k, dt, os, rfl, rfl, ap⟩ := hrel;have fw := ap.gT;have b1 := ap.c1;have b2 := ap.top;have ed := ap.more;have lP := Lib.hid ap;have aT := Lib.hid (fun w h => wH A l c ds k w h (by omega) (by omega));have bH := Lib.hid (fun w h => wH B m d es k w h (by omega) (by omega));have g1 := kY.out.getD k;have g2 := nV.out.getD k;have B6 := Lib.hid (hs.out.call ap.below);have B7 := Lib.hid (zJ.out.call ap.below);clear ap;have N := Lib.hid (fun (w1 : World) (v' : Value) (o : Obj) iB cp aq => aee (w1 := w1) (v' := v') (o := o) lP.out H1.out c9.out kY.out nV.out iB rfl cp aq);generalize ds.getD k 0 = x at *;generalize es.getD k 0 = y at *
  by_cases iB : k < l ∨ k < m ∨ 0 < dt
  ·have X8 := Lib.hid iB;have iO := Lib.hid lP.out.own;have di : 0 ≤ dt + x + y := by omega
   have bI := lP.out.below.size;have M := Lib.hid (fun w1 v' o => N.out w1 v' o X8.out);clear N;have dT : (l < m ∧ k < m) ∨ (l < m ∧ m ≤ k ∧ 0 < dt) ∨ (m ≤ l ∧ k < l) ∨ (m ≤ l ∧ l ≤ k ∧ 0 < dt) := by omega
   rcases dT with ⟨t1, t2⟩ | ⟨t1, t2, t3⟩ | ⟨t1, t2⟩ | ⟨t1, t2, t3⟩
   all_goals
    go_wp2_with (first
     | (go_at_call 115; first | ((with_reducible refine (aT.out _ B6.out).mono ?_); rintro e w' ⟨rfl, rfl⟩) | ((with_reducible refine (bH.out _ B7.out).mono ?_); rintro e w' ⟨rfl, rfl⟩))
     | (go_at_call 116; (with_reducible refine (Bv _).mono ?_); rintro e w' ⟨rfl, rfl⟩)
     | (at_builtin; refine wpList_append_own _ rfl _ _ 32 rfl w.heap.size 3 i0 (.int .i64 0) 1 8 Tryz.underlying32 pi.out mY.out oo.out oq.out rfl (by decide) _ _ _ rfl (iO.out.alloc _) ⟨wr.heap.size, 0, none⟩ 1 1 [.int .i64 ((dt + x + y) % 10000)] rfl rfl (cell_one_new _ _ _) (by simp [Value.oneCell']) (by simp only [maxLen]; omega) (by omega) (by simp; omega) ?_; intro v' w1 lv ls pI; clear pI; have R := Lib.hid (M.out w1 v' _ lv ls); clear lv ls))
    all_goals first
     | (exfalso; omega)
     | (refine ⟨⟨k + 1, _, _, rfl, by go_num, R.out⟩, ?_⟩; simp [intOf]; omega)
  ·clear N;have t3 : dt ≤ 0 := by omega
   have t4 : l ≤ k := by omega
   have t5 : m ≤ k := by omega
   rcases hz l m with Yn | Yn
   all_goals
    go_wp2
    all_goals first
     | (exfalso; omega)
     | (go_ret; exact aed lP.out H1.out c9.out t4 t5 t3)
end Go.Proofs.YtbcecodakfejaaaGreat
namespace Go.Proofs.YtbcecodakfejaaaGreat
open Go.RowKit
theorem QO {P : Program} {f : FuncId} {args : Array Value} {w : World} {n : Nat} {v : Value}
  (h : Calls P f args (w.drewN n) fun e w' => e = .returned v ∧ w.drewN n = w') : Calls P f args (w.drewN n) fun e ag6 => e = .returned v ∧ ∃ m, ag6 = w.drewN m :=
 h.mono fun _ _ ⟨he, hm⟩ => ⟨he, n, hm.symm⟩
theorem e2.drewN {w : World} {A : Option Addr} {l c : Nat} {ds : List Int} (h : e2 w A l c ds) (n : Nat) : e2 (w.drewN n) A l c ds := h
theorem KB {B : Nat} {a w : World} (h : Below B a w) (n : Nat) : Below B a (w.drewN n) := ⟨h.os, h.tape, h.output, h.size, h.block⟩
structure sU (w wr : World) (ds es : List Int) (l : Nat) (v : Value) (c : Int) (k : Nat) (os : List Int) : Prop where
 gT : 0 ≤ c
 c1 : c ≤ 1
 len : os.length = k
 dg : dD os
 val : gU os (hi ds k - hi es k - c) = bQ ds - bQ es
 top : k ≤ l
 own : wr.ownsRow w.heap.size 3 1 v k (os.map (Value.int .i64))
 below : Below w.heap.size w wr
theorem aba (w : World) (ds es : List Int) (l : Nat) : sU w w ds es l (.slice none 0 0) 0 0 [] :=
 ⟨by omega, by omega, rfl, dD.nil, by show hi ds 0 - hi es 0 - 0 = _; rw [r1, r1]; omega, dC _, World.ownsRow_nil _ _ _ _, Below.refl _ _⟩
theorem aa9 {w wr w1 : World} {ds es os : List Int} {l k : Nat} {v v' : Value} {c : Int} {o : Obj} (h : sU w wr ds es l v c k os)
  (iB : k < l) {x c' : Int} (aD : 0 ≤ x) (h1 : x < 10000) (u6 : 0 ≤ c') (hj : c' ≤ 1) (hs : x - 10000 * c' = ds.getD k 0 - es.getD k 0 - c)
  (cp : w1.ownsRow w.heap.size 3 1 v' (k + 1) (os.map (Value.int .i64) ++ [.int .i64 x])) (aq : (wr.alloc o).grownBy w1 v.ownBlock) : sU w w1 ds es l v' c' (k + 1) (os ++ [x]) := by
 refine ⟨u6, hj, by rw [cJ, h.len]; rfl, h.dg.snoc aD h1, abb h.val hs, by omega, by rw [List.map_append]; exact cp, ?_⟩;exact (h.below.alloc h.below.size o).grown aq (by have := h.below.size; simp; omega) (fun j ae => (h.own.lt j ae).1)
theorem aa8 {w wr : World} {ds es os : List Int} {l k : Nat} {v : Value} {c : Int} (h : sU w wr ds es l v c k os) (ak : ds.length = l) (he : dD es) (h1 : l ≤ k) (hle : bQ es ≤ bQ ds) : Bg (bQ ds - bQ es) l w (.returned v) wr := by
 obtain ⟨A, c', rfl, eK⟩ := e2.own h.own;have hv := h.val;have aB := h.top;obtain rfl : k = ds.length := by omega
 exact ⟨A, _, c', os, rfl, eK, h.dg, aa7 h.dg he h.gT hle hv, by omega, h.below, Fr.own h.own⟩
theorem sU.drewN {w wr : World} {ds es os : List Int} {l k : Nat} {v : Value} {c : Int} (h : sU w wr ds es l v c k os) (n : Nat) : sU w (wr.drewN n) ds es l v c k os :=
 ⟨h.gT, h.c1, h.len, h.dg, h.val, h.top, h.own, KB h.below n⟩
theorem Q4 (A B : Option Addr) (l c m d : Nat) (ds es : List Int) (w : World) (h : e2 w A l c ds) (k : e2 w B m d es) (hd : dD ds) (he : dD es) (ak : l ≤ 900) (hm : m ≤ 900) (hle : bQ es ≤ bQ ds) :
  Calls ag 113 #[.slice A l c, .slice B m d] w (Bg (bQ ds - bQ es) l w) := by
 obtain ⟨i0, nj, km, nu, kn⟩ := info_parts zA;have H1 := Lib.hid h.1;have kY := Lib.hid hd;have nV := Lib.hid he;have hs := Lib.hid h;have zJ := Lib.hid k;have pi := Lib.hid nj;have mY := Lib.hid km;have oo := Lib.hid nu;have oq := Lib.hid kn;have ED := Lib.hid hle;clear hd he h k nj km nu kn hle
 go_enter Tryz.func113, Tryz.ntmps113
 go_wp2
 go_loopw [5, 6, 7] (fun v c i wr => ∃ (k : Nat) (dt : Int) (os : List Int), c = .int .i64 dt ∧ i = .int .i64 k ∧ sU w wr ds es l v dt k os) (fun _ _ i _ => l - (intOf i).toNat)
 case atStart => exact ⟨0, 0, [], rfl, rfl, aba w ds es l⟩
 case round =>
  obtain ⟨k, dt, os, rfl, rfl, ap⟩ := hrel;have fw := ap.gT;have b1 := ap.c1;have b2 := ap.top;have lP := Lib.hid ap;have bH := Lib.hid (fun w h => wH B m d es k w h (by omega) (by omega));have g1 := kY.out.getD k;have g2 := nV.out.getD k;have B7 := Lib.hid (zJ.out.call ap.below);have B6 := hs.out.call ap.below;have iO := Lib.hid ap.own;have bI := ap.below.size
  by_cases iB : k < l
  ·obtain ⟨ct, cz, h4, aE⟩ := B6;obtain ⟨g, rfl, aq, jn⟩ := aE (by omega);have MI := jn k iB;clear aE jn ap ct cz h4;generalize u3 : ds.getD k 0 = x at MI g1;generalize wU : es.getD k 0 = y at g2 bH
   replace u3 := Lib.hid u3
   replace wU := Lib.hid wU
   have e5 : (0 : Int) ≤ (k : Int) := by omega
   have bl : (k : Int) < (l : Int) := by omega
   have s1 : IntKind.i64.wrap (x - y) = x - y := IntWalk.i64_in _ (by omega);have s2 : IntKind.i64.wrap (x - y - dt) = x - y - dt := IntWalk.i64_in _ (by omega)
   go_wp2_with fail
   go_quiet ((go_at_call 115; exact QO (bH.out _ (B7.out.drewN _))))
   clear s1 s2 MI aq;have qi := lP.out.drewN nq;generalize wr.drewN nq = Jg at *;clear lP B7 iO bI bH;have iO := Lib.hid qi.own;have bI := qi.below.size;have N := Lib.hid (fun (w1 : World) (v' : Value) (o : Obj) (z c' : Int) aD h1 u6 hj hs cp aq => aa9 (w1 := w1) (v' := v') (o := o) (x := z) (c' := c') qi iB aD h1 u6 hj hs cp aq);clear qi;rw [u3.out, wU.out] at N
   by_cases air : x - y - dt < 0
   ·have M := Lib.hid (fun (w1 : World) (v' : Value) (o : Obj) cp aq => N.out w1 v' o (x - y - dt + 10000) 1 (by omega) (by omega) (by omega) (by omega) (by omega) cp aq);clear N
    go_wp2_with (first
     | (go_at_call 116; (with_reducible refine (Bv _).mono ?_); rintro e w' ⟨rfl, rfl⟩)
     | (at_builtin; refine wpList_append_own _ rfl _ _ 32 rfl w.heap.size 3 i0 (.int .i64 0) 1 8 Tryz.underlying32 pi.out mY.out oo.out oq.out rfl (by decide) _ _ _ rfl (iO.out.alloc _) ⟨Jg.heap.size, 0, none⟩ 1 1 [.int .i64 (x - y - dt + 10000)] rfl rfl (cell_one_new _ _ _) (by simp [Value.oneCell']) (by simp only [maxLen]; omega) (by omega) (by simp; omega) ?_; intro v' w1 lv ls pI; clear pI; have R := Lib.hid (M.out w1 v' _ lv ls); clear lv ls))
    refine ⟨⟨k + 1, _, _, rfl, by go_num, R.out⟩, ?_⟩;simp [intOf]; omega
   ·have M := Lib.hid (fun (w1 : World) (v' : Value) (o : Obj) cp aq => N.out w1 v' o (x - y - dt) 0 (by omega) (by omega) (by omega) (by omega) (by omega) cp aq);clear N
    go_wp2_with (first
     | (go_at_call 116; (with_reducible refine (Bv _).mono ?_); rintro e w' ⟨rfl, rfl⟩)
     | (at_builtin; refine wpList_append_own _ rfl _ _ 32 rfl w.heap.size 3 i0 (.int .i64 0) 1 8 Tryz.underlying32 pi.out mY.out oo.out oq.out rfl (by decide) _ _ _ rfl (iO.out.alloc _) ⟨Jg.heap.size, 0, none⟩ 1 1 [.int .i64 (x - y - dt)] rfl rfl (cell_one_new _ _ _) (by simp [Value.oneCell']) (by simp only [maxLen]; omega) (by omega) (by simp; omega) ?_; intro v' w1 lv ls pI; clear pI; have R := Lib.hid (M.out w1 v' _ lv ls); clear lv ls))
    refine ⟨⟨k + 1, _, _, rfl, by go_num, R.out⟩, ?_⟩;simp [intOf]; omega
  ·clear B6 ap
   go_wp2
   go_ret
   exact aa8 lP.out H1.out nV.out (by omega) ED.out
end Go.Proofs.YtbcecodakfejaaaGreat
namespace Go.Proofs.YtbcecodakfejaaaGreat
open Go.RowKit
def hg (w : World) (b : Nat) : Prop := ∃ x u, dd w b (.bool x) u
theorem hg.of {w : World} {b : Nat} {x : Bool} {u : Value} (h : dd w b (.bool x) u) : hg w b := ⟨x, u, h⟩
theorem hg.call {w w1 : World} {b : Nat} (h : hg w b) (ab : Below w.heap.size w w1) : hg w1 b := by
 obtain ⟨x, u, k⟩ := h;exact ⟨x, u, k.call ab⟩
theorem hg.drew {w : World} {b : Nat} (h : hg w b) : hg w.drew b := by
 obtain ⟨x, u, k⟩ := h;exact ⟨x, u, k.drew⟩
theorem hg.new {w : World} {b : Nat} {x : Bool} {u : Value} {t : TypeId} (e : b = w.heap.size) : hg (w.alloc (.cells #[.bool x, u] t)) b := ⟨x, u, dd.new e⟩
theorem e2.set {w : World} {A : Option Addr} {l c : Nat} {ds : List Int} (h : e2 w A l c ds) {b : Nat} {x : Bool} (ab : w.cell? ⟨b, 0, none⟩ = some (.bool x)) (o : Nat) (v : Value) : e2 (w.setCell ⟨b, o, none⟩ v) A l c ds := by
 obtain ⟨h1, h2, an, aE⟩ := h;refine ⟨h1, h2, an, fun hp => ?_⟩;obtain ⟨g, e, aq, aj⟩ := aE hp
 have bU : g ≠ b := by
  rintro rfl;have := aj 0 hp;rw [ab] at this;cases this
 refine ⟨g, e, by simpa [World.setCell] using aq, fun j ae => ?_⟩;rw [World.cell?_setCell_other _ _ _ _ (fun e => bU (congrArg Addr.block e).symm)];exact aj j ae
theorem eR.put {w : World} {neg : Bool} {A : Option Addr} {l c : Nat} {n : Int} {b : Nat} {x : Bool} {u : Value} (h : eR w neg A l c n) (ab : hg w b) : eR ((w.setCell ⟨b, 0, none⟩ (.bool x)).setCell ⟨b, 1, none⟩ u) neg A l c n := by
 obtain ⟨ds, eK, hS⟩ := h;obtain ⟨y, v, ⟨bl, bJ⟩, e6, gH⟩ := ab;refine ⟨ds, (eK.set bl _ _).set (x := x) ?_ _ _, hS⟩;rw [World.cell?_setCell_same _ _ _ bl]
theorem afR (neg : Bool) (n : Int) : hP (!neg) n = -hP neg n := by cases neg <;> simp [hP]
theorem aeJ (neg : Bool) (A : Option Addr) (l c : Nat) (n : Int) (w : World) (h : eR w neg A l c n) (ak : l ≤ 1000) :
  Calls ag 109 #[.agg #[.bool neg, .slice A l c]] w fun e w' => ∃ x cb, e = .returned (.agg #[.bool x, .slice A cb c]) ∧ eR w' x A cb c (-n) ∧ cb ≤ l ∧ Below w.heap.size w w' := by
 obtain ⟨ds, eK, hS⟩ := h;have hv : Hid (hP (!neg) (bQ ds) = -n) := by unfold Hid; rw [afR, hS.val]
 have hd := Lib.hid hS.dg;clear hS
 go_enter Tryz.func109, Tryz.ntmps109
 go_wp2_with (go_at_call 110; refine (agN _ _ _ _ ds _ ((eK.alloc _).alloc _) hd.out ak).mono ?_; rintro e w1 ⟨ct, l1, rfl, h1, GA, ab⟩; have wC := Below.cell ab (p := ⟨w.heap.size, 0, none⟩) (by (simp; omega)); have wM := Below.frozen ab (p := ⟨w.heap.size, 0, none⟩) (by (simp; omega)); have wD := Below.cell ab (p := ⟨w.heap.size, 1, none⟩) (by (simp; omega)); have wN := Below.frozen ab (p := ⟨w.heap.size, 1, none⟩) (by (simp; omega)); have ys := Below.cell ab (p := ⟨w.heap.size + 1, 0, none⟩) (by (simp; done)); have yD := Below.frozen ab (p := ⟨w.heap.size + 1, 0, none⟩) (by (simp; done)); have yt := Below.cell ab (p := ⟨w.heap.size + 1, 1, none⟩) (by (simp; done)); have yE := Below.frozen ab (p := ⟨w.heap.size + 1, 1, none⟩) (by (simp; done)); have n1 := Below.size ab; (try simp at n1); have xr : ¬ w1.heap.size = w.heap.size := (by omega); have zT : ¬ w1.heap.size = w.heap.size + 1 := (by omega))
 rw [hv.out] at h1;refine bodyPost_ret (v := .agg #[.bool ct, .slice A l1 c]) (by simp only [results, Tryz.results109]; go_simp) rfl ⟨_, _, rfl, ?_, GA, ?_⟩
 ·(repeat first | with_reducible assumption | with_reducible refine eR.put ?_ ?_ | focus ((with_reducible refine hg.new ?_); simp; done) | with_reducible refine hg.call ?_ ab)
 ·(repeat first | with_reducible exact Below.refl _ _ | with_reducible refine dV ?_ _ | focus ((with_reducible refine iR ?_ _ _ _ ?_); rotate_left; omega) | with_reducible refine fa ?_ ab)
end Go.Proofs.YtbcecodakfejaaaGreat
namespace Go.Proofs.YtbcecodakfejaaaGreat
open Go.RowKit
theorem Zp (a b : Int) : b9 (-a) (-b) = b9 b a := by
 unfold b9
 repeat' split
 all_goals omega
theorem Std.O7 {ds : List Int} {n : Int} (h : Std false ds n) : 0 ≤ n := by rw [h.val]; exact wI h.dg
theorem Std.below {ds : List Int} {n : Int} (h : Std true ds n) : n < 0 := by have := h.pos (h.sign rfl); rw [h.val]; simp [hP]; omega
theorem aeH (x y : Bool) (A B : Option Addr) (l c cb c' : Nat) (n m : Int) (w : World) (h : eR w x A l c n) (k : eR w y B cb c' m) (ak : l ≤ 1000) (e1 : cb ≤ 1000) :
  Calls ag 76 #[.agg #[.bool x, .slice A l c], .agg #[.bool y, .slice B cb c']] w (kQ (.int .i64 (b9 n m)) w) := by
 obtain ⟨ds, eK, hS⟩ := h;obtain ⟨es, fF, cK⟩ := k;have hd := Lib.hid hS.dg;have he := Lib.hid cK.dg;have aT := Lib.hid (fun w h1 h2 => Ea A B l c cb c' ds es w h1 h2 hd.out he.out ak e1);have bH := Lib.hid (fun w h1 h2 => Ea B A cb c' l c es ds w h1 h2 he.out hd.out e1 ak);have lM := Lib.hid eK;have kN := Lib.hid fF;clear eK fF;cases x <;> cases y
 ·have hv : Hid (b9 (bQ ds) (bQ es) = b9 n m) := by unfold Hid; rw [hS.val, cK.val]; rfl
  clear hS cK
  go_enter Tryz.func76, Tryz.ntmps76
  go_wp2_with (go_at_call 112; refine (aT.out _ ((lM.out.alloc _).alloc _) ((kN.out.alloc _).alloc _)).mono ?_; rintro e w1 ⟨rfl, rfl⟩)
  go_ret
  exact ⟨ui hv.out, by (repeat first | with_reducible exact Below.refl _ _ | with_reducible refine dV ?_ _)⟩
 ·have hv : Hid (b9 n m = 1) := Nw (by have := hS.O7; have := cK.below; omega);clear hS cK
  go_enter Tryz.func76, Tryz.ntmps76
  go_wp2
  go_ret
  exact ⟨ui hv.out.symm, by (repeat first | with_reducible exact Below.refl _ _ | with_reducible refine dV ?_ _)⟩
 ·have hv : Hid (b9 n m = -1) := Nx (by have := hS.below; have := cK.O7; omega);clear hS cK
  go_enter Tryz.func76, Tryz.ntmps76
  go_wp2
  go_ret
  exact ⟨ui hv.out.symm, by (repeat first | with_reducible exact Below.refl _ _ | with_reducible refine dV ?_ _)⟩
 ·have hv : Hid (b9 (bQ es) (bQ ds) = b9 n m) := by unfold Hid; rw [hS.val, cK.val]; simp only [IK]; rw [Zp]
  clear hS cK
  go_enter Tryz.func76, Tryz.ntmps76
  go_wp2_with (go_at_call 112; refine (bH.out _ ((kN.out.alloc _).alloc _) ((lM.out.alloc _).alloc _)).mono ?_; rintro e w1 ⟨rfl, rfl⟩)
  go_ret
  exact ⟨ui hv.out, by (repeat first | with_reducible exact Below.refl _ _ | with_reducible refine dV ?_ _)⟩
end Go.Proofs.YtbcecodakfejaaaGreat
namespace Go.Proofs.YtbcecodakfejaaaGreat
open Go.RowKit
theorem Nv {a b : Int} : (b9 a b ≥ 0) ↔ b ≤ a := by
 unfold b9
 repeat' split
 all_goals omega
theorem aeF (x : Bool) (A B : Option Addr) (l c cb c' : Nat) (n m : Int) (w : World) (h : eR w x A l c n) (k : eR w x B cb c' m) (ak : l ≤ 900) (e1 : cb ≤ 900) :
  Calls ag 71 #[.agg #[.bool x, .slice A l c], .agg #[.bool x, .slice B cb c']] w (rz (n + m) w) := by
 obtain ⟨ds, eK, hS⟩ := h;obtain ⟨es, fF, cK⟩ := k;have hv : Hid (hP x (bQ ds + bQ es) = n + m) := by unfold Hid; rw [hS.val, cK.val]; cases x <;> simp [hP]; omega
 have aT := Lib.hid (fun w h1 h2 => afl A B l c cb c' ds es w h1 h2 hS.dg cK.dg ak e1);have lM := Lib.hid (((eK.alloc (.cells #[.bool x, .slice A l c] 85)).alloc (.cells #[.bool x, .slice B cb c'] 85)).alloc (.cells #[.bool false, .slice none 0 0] 85));have kN := Lib.hid (((fF.alloc (.cells #[.bool x, .slice A l c] 85)).alloc (.cells #[.bool x, .slice B cb c'] 85)).alloc (.cells #[.bool false, .slice none 0 0] 85));clear eK fF hS cK;have dX : ¬ (w.heap.size + 1 + 1 = w.heap.size) := by omega
 go_enter Tryz.func71, Tryz.ntmps71
 go_wp2_with fail
 go_region_held3 (fun w' => w'.cell? ⟨w.heap.size, 0, none⟩ = some (.bool x) ∧ w'.cell? ⟨w.heap.size, 1, none⟩ = some (.slice A l c) ∧ w'.cell? ⟨w.heap.size + 1, 1, none⟩ = some (.slice B cb c')) (go_keep)
  (first
   | (go_at_call 111; ((with_reducible refine (aT.out _ (lM.out.call ((Below.refl _ _).drew)) (kN.out.call ((Below.refl _ _).drew))).mono ?_); rintro e w1 ⟨hQ, l1, c1, os, rfl, qB, yO, pC, Mv, dA, hF⟩; have KL := Below.cell dA (p := ⟨w.heap.size, 0, none⟩) (by (simp; omega)); have LR := Below.frozen dA (p := ⟨w.heap.size, 0, none⟩) (by (simp; omega)); have KM := Below.cell dA (p := ⟨w.heap.size, 1, none⟩) (by (simp; omega)); have LS := Below.frozen dA (p := ⟨w.heap.size, 1, none⟩) (by (simp; omega)); have KN := Below.cell dA (p := ⟨w.heap.size + 1, 0, none⟩) (by (simp; done)); have LU := Below.frozen dA (p := ⟨w.heap.size + 1, 0, none⟩) (by (simp; done)); have KO := Below.cell dA (p := ⟨w.heap.size + 1, 1, none⟩) (by (simp; done)); have LV := Below.frozen dA (p := ⟨w.heap.size + 1, 1, none⟩) (by (simp; done)); have KP := Below.cell dA (p := ⟨w.heap.size + 1 + 1, 0, none⟩) (by (simp; done)); have LW := Below.frozen dA (p := ⟨w.heap.size + 1 + 1, 0, none⟩) (by (simp; done)); have KQ := Below.cell dA (p := ⟨w.heap.size + 1 + 1, 1, none⟩) (by (simp; done)); have LX := Below.frozen dA (p := ⟨w.heap.size + 1 + 1, 1, none⟩) (by (simp; done)); have zv := Below.size dA; (try simp at zv); have OQ : ¬ w1.heap.size = w.heap.size := (by omega); have OR : ¬ w1.heap.size = w.heap.size + 1 := (by omega); have OS : ¬ w1.heap.size = w.heap.size + 1 + 1 := (by omega); replace pC := Lib.hid pC))
   | (go_at_call 110; ((with_reducible refine (AA _ _ _ _ os _ qB yO (by omega)).mono ?_); rintro e w2 ⟨cz, l2, rfl, h2, dy⟩; rw [pC.out, hv.out] at h2; have KR := Below.cell dy (p := ⟨w.heap.size, 0, none⟩) (by (simp; omega)); have LY := Below.frozen dy (p := ⟨w.heap.size, 0, none⟩) (by (simp; omega)); have KS := Below.cell dy (p := ⟨w.heap.size, 1, none⟩) (by (simp; omega)); have LZ := Below.frozen dy (p := ⟨w.heap.size, 1, none⟩) (by (simp; omega)); have KT := Below.cell dy (p := ⟨w.heap.size + 1, 0, none⟩) (by (simp; omega)); have L0 := Below.frozen dy (p := ⟨w.heap.size + 1, 0, none⟩) (by (simp; omega)); have KU := Below.cell dy (p := ⟨w.heap.size + 1, 1, none⟩) (by (simp; omega)); have L1 := Below.frozen dy (p := ⟨w.heap.size + 1, 1, none⟩) (by (simp; omega)); have KV := Below.cell dy (p := ⟨w.heap.size + 1 + 1, 0, none⟩) (by (simp; omega)); have L2 := Below.frozen dy (p := ⟨w.heap.size + 1 + 1, 0, none⟩) (by (simp; omega)); have KW := Below.cell dy (p := ⟨w.heap.size + 1 + 1, 1, none⟩) (by (simp; omega)); have L3 := Below.frozen dy (p := ⟨w.heap.size + 1 + 1, 1, none⟩) (by (simp; omega)); have zw := Below.size dy; (try simp at zw); have OT : ¬ w2.heap.size = w.heap.size := (by omega); have OU : ¬ w2.heap.size = w.heap.size + 1 := (by omega); have OV : ¬ w2.heap.size = w.heap.size + 1 + 1 := (by omega))))
 go_wp2_with fail
 refine bodyPost_ret (v := .agg #[.bool cz, .slice hQ l2 c1]) (by simp only [results, Tryz.results71]; go_simp) rfl ⟨_, _, _, _, rfl, ?_, ?_, fun a e => ha (by simp; omega) (hF a e)⟩
 ·(repeat first | with_reducible assumption | with_reducible refine eR.put ?_ ?_ | focus ((with_reducible refine hg.new ?_); simp; done) | with_reducible refine hg.drew ?_ | with_reducible refine hg.call ?_ dy | with_reducible refine hg.call ?_ dA)
 ·(repeat first | with_reducible exact Below.refl _ _ | with_reducible refine dV ?_ _ | focus ((with_reducible refine iR ?_ _ _ _ ?_); rotate_left; omega) | with_reducible refine Below.drew ?_ | with_reducible refine fa ?_ dy | with_reducible refine fa ?_ dA)
theorem aeC (x y : Bool) (A B : Option Addr) (l c cb c' : Nat) (n m : Int) (w : World) (h : eR w x A l c n) (k : eR w y B cb c' m) (ak : l ≤ 900) (e1 : cb ≤ 900) (im : (x == y) = false) (hle : m.natAbs ≤ n.natAbs) :
  Calls ag 71 #[.agg #[.bool x, .slice A l c], .agg #[.bool y, .slice B cb c']] w (rz (n + m) w) := by
 obtain ⟨ds, eK, hS⟩ := h;obtain ⟨es, fF, cK⟩ := k
 replace hle : bQ es ≤ bQ ds := by have := hS.abs; have := cK.abs; omega
 have hv : Hid (hP x (bQ ds - bQ es) = n + m) := by unfold Hid; rw [hS.val, cK.val]; cases x <;> cases y <;> simp [hP] at im ⊢ <;> omega
 have lL := Lib.hid (fun w h1 h2 => Ea A B l c cb c' ds es w h1 h2 hS.dg cK.dg (by omega) (by omega));have aT := Lib.hid (fun w h1 h2 => Q4 A B l c cb c' ds es w h1 h2 hS.dg cK.dg ak e1 (by omega));have mn := Nv (a := bQ ds) (b := bQ es);have lM := Lib.hid (((eK.alloc (.cells #[.bool x, .slice A l c] 85)).alloc (.cells #[.bool y, .slice B cb c'] 85)).alloc (.cells #[.bool false, .slice none 0 0] 85));have kN := Lib.hid (((fF.alloc (.cells #[.bool x, .slice A l c] 85)).alloc (.cells #[.bool y, .slice B cb c'] 85)).alloc (.cells #[.bool false, .slice none 0 0] 85));have dX : ¬ (w.heap.size + 1 + 1 = w.heap.size) := by omega
 have ja : ¬ (w.heap.size + 1 = w.heap.size) := by omega
 have mY : 0 ≤ b9 (bQ ds) (bQ es) := by omega
 clear eK fF hS cK mn hle;generalize b9 (bQ ds) (bQ es) = Zk at *
 go_enter Tryz.func71, Tryz.ntmps71
 go_wp2_with (go_at_call 112; ((with_reducible refine (lL.out _ lM.out kN.out).mono ?_); rintro e ag7 ⟨rfl, rfl⟩))
 go_region_held3 (fun w' => w'.cell? ⟨w.heap.size, 0, none⟩ = some (.bool x) ∧ w'.cell? ⟨w.heap.size, 1, none⟩ = some (.slice A l c) ∧ w'.cell? ⟨w.heap.size + 1, 1, none⟩ = some (.slice B cb c')) (go_keep)
  (first
   | (go_at_call 113; ((with_reducible refine (aT.out _ (lM.out.call ((Below.refl _ _).drew)) (kN.out.call ((Below.refl _ _).drew))).mono ?_); rintro e w1 ⟨hQ, l1, c1, os, rfl, qB, yO, pC, Mv, dA, hF⟩; have KL := Below.cell dA (p := ⟨w.heap.size, 0, none⟩) (by (simp; omega)); have LR := Below.frozen dA (p := ⟨w.heap.size, 0, none⟩) (by (simp; omega)); have KM := Below.cell dA (p := ⟨w.heap.size, 1, none⟩) (by (simp; omega)); have LS := Below.frozen dA (p := ⟨w.heap.size, 1, none⟩) (by (simp; omega)); have KN := Below.cell dA (p := ⟨w.heap.size + 1, 0, none⟩) (by (simp; done)); have LU := Below.frozen dA (p := ⟨w.heap.size + 1, 0, none⟩) (by (simp; done)); have KO := Below.cell dA (p := ⟨w.heap.size + 1, 1, none⟩) (by (simp; done)); have LV := Below.frozen dA (p := ⟨w.heap.size + 1, 1, none⟩) (by (simp; done)); have KP := Below.cell dA (p := ⟨w.heap.size + 1 + 1, 0, none⟩) (by (simp; done)); have LW := Below.frozen dA (p := ⟨w.heap.size + 1 + 1, 0, none⟩) (by (simp; done)); have KQ := Below.cell dA (p := ⟨w.heap.size + 1 + 1, 1, none⟩) (by (simp; done)); have LX := Below.frozen dA (p := ⟨w.heap.size + 1 + 1, 1, none⟩) (by (simp; done)); have zv := Below.size dA; (try simp at zv); have OQ : ¬ w1.heap.size = w.heap.size := (by omega); have OR : ¬ w1.heap.size = w.heap.size + 1 := (by omega); have OS : ¬ w1.heap.size = w.heap.size + 1 + 1 := (by omega); replace pC := Lib.hid pC))
   | (go_at_call 110; ((with_reducible refine (AA _ _ _ _ os _ qB yO (by omega)).mono ?_); rintro e w2 ⟨cz, l2, rfl, h2, dy⟩; rw [pC.out, hv.out] at h2; have KR := Below.cell dy (p := ⟨w.heap.size, 0, none⟩) (by (simp; omega)); have LY := Below.frozen dy (p := ⟨w.heap.size, 0, none⟩) (by (simp; omega)); have KS := Below.cell dy (p := ⟨w.heap.size, 1, none⟩) (by (simp; omega)); have LZ := Below.frozen dy (p := ⟨w.heap.size, 1, none⟩) (by (simp; omega)); have KT := Below.cell dy (p := ⟨w.heap.size + 1, 0, none⟩) (by (simp; omega)); have L0 := Below.frozen dy (p := ⟨w.heap.size + 1, 0, none⟩) (by (simp; omega)); have KU := Below.cell dy (p := ⟨w.heap.size + 1, 1, none⟩) (by (simp; omega)); have L1 := Below.frozen dy (p := ⟨w.heap.size + 1, 1, none⟩) (by (simp; omega)); have KV := Below.cell dy (p := ⟨w.heap.size + 1 + 1, 0, none⟩) (by (simp; omega)); have L2 := Below.frozen dy (p := ⟨w.heap.size + 1 + 1, 0, none⟩) (by (simp; omega)); have KW := Below.cell dy (p := ⟨w.heap.size + 1 + 1, 1, none⟩) (by (simp; omega)); have L3 := Below.frozen dy (p := ⟨w.heap.size + 1 + 1, 1, none⟩) (by (simp; omega)); have zw := Below.size dy; (try simp at zw); have OT : ¬ w2.heap.size = w.heap.size := (by omega); have OU : ¬ w2.heap.size = w.heap.size + 1 := (by omega); have OV : ¬ w2.heap.size = w.heap.size + 1 + 1 := (by omega))))
 go_wp2_with fail
 refine bodyPost_ret (v := .agg #[.bool cz, .slice hQ l2 c1]) (by simp only [results, Tryz.results71]; go_simp) rfl ⟨_, _, _, _, rfl, ?_, ?_, fun a e => ha (by simp; omega) (hF a e)⟩
 ·(repeat first | with_reducible assumption | with_reducible refine eR.put ?_ ?_ | focus ((with_reducible refine hg.new ?_); simp; done) | with_reducible refine hg.drew ?_ | with_reducible refine hg.call ?_ dy | with_reducible refine hg.call ?_ dA)
 ·(repeat first | with_reducible exact Below.refl _ _ | with_reducible refine dV ?_ _ | focus ((with_reducible refine iR ?_ _ _ _ ?_); rotate_left; omega) | with_reducible refine Below.drew ?_ | with_reducible refine fa ?_ dy | with_reducible refine fa ?_ dA)
theorem aeD (x y : Bool) (A B : Option Addr) (l c cb c' : Nat) (n m : Int) (w : World) (h : eR w x A l c n) (k : eR w y B cb c' m) (ak : l ≤ 900) (e1 : cb ≤ 900) (im : (x == y) = false) (hle : n.natAbs < m.natAbs) :
  Calls ag 71 #[.agg #[.bool x, .slice A l c], .agg #[.bool y, .slice B cb c']] w (rz (n + m) w) := by
 obtain ⟨ds, eK, hS⟩ := h;obtain ⟨es, fF, cK⟩ := k
 replace hle : bQ ds < bQ es := by have := hS.abs; have := cK.abs; omega
 have hv : Hid (hP y (bQ es - bQ ds) = n + m) := by unfold Hid; rw [hS.val, cK.val]; cases x <;> cases y <;> simp [hP] at im ⊢ <;> omega
 have lL := Lib.hid (fun w h1 h2 => Ea A B l c cb c' ds es w h1 h2 hS.dg cK.dg (by omega) (by omega));have aT := Lib.hid (fun w h1 h2 => Q4 B A cb c' l c es ds w h2 h1 cK.dg hS.dg e1 ak (by omega));have mn := Nv (a := bQ ds) (b := bQ es);have lM := Lib.hid (((eK.alloc (.cells #[.bool x, .slice A l c] 85)).alloc (.cells #[.bool y, .slice B cb c'] 85)).alloc (.cells #[.bool false, .slice none 0 0] 85));have kN := Lib.hid (((fF.alloc (.cells #[.bool x, .slice A l c] 85)).alloc (.cells #[.bool y, .slice B cb c'] 85)).alloc (.cells #[.bool false, .slice none 0 0] 85));have dX : ¬ (w.heap.size + 1 + 1 = w.heap.size) := by omega
 have ja : ¬ (w.heap.size + 1 = w.heap.size) := by omega
 have mY : b9 (bQ ds) (bQ es) < 0 := by omega
 clear eK fF hS cK mn hle;generalize b9 (bQ ds) (bQ es) = Zk at *
 go_enter Tryz.func71, Tryz.ntmps71
 go_wp2_with (go_at_call 112; ((with_reducible refine (lL.out _ lM.out kN.out).mono ?_); rintro e ag7 ⟨rfl, rfl⟩))
 go_region_held3 (fun w' => w'.cell? ⟨w.heap.size + 1, 0, none⟩ = some (.bool y) ∧ w'.cell? ⟨w.heap.size, 1, none⟩ = some (.slice A l c) ∧ w'.cell? ⟨w.heap.size + 1, 1, none⟩ = some (.slice B cb c')) (go_keep)
  (first
   | (go_at_call 113; ((with_reducible refine (aT.out _ (lM.out.call ((Below.refl _ _).drew)) (kN.out.call ((Below.refl _ _).drew))).mono ?_); rintro e w1 ⟨hQ, l1, c1, os, rfl, qB, yO, pC, Mv, dA, hF⟩; have KL := Below.cell dA (p := ⟨w.heap.size, 0, none⟩) (by (simp; omega)); have LR := Below.frozen dA (p := ⟨w.heap.size, 0, none⟩) (by (simp; omega)); have KM := Below.cell dA (p := ⟨w.heap.size, 1, none⟩) (by (simp; omega)); have LS := Below.frozen dA (p := ⟨w.heap.size, 1, none⟩) (by (simp; omega)); have KN := Below.cell dA (p := ⟨w.heap.size + 1, 0, none⟩) (by (simp; done)); have LU := Below.frozen dA (p := ⟨w.heap.size + 1, 0, none⟩) (by (simp; done)); have KO := Below.cell dA (p := ⟨w.heap.size + 1, 1, none⟩) (by (simp; done)); have LV := Below.frozen dA (p := ⟨w.heap.size + 1, 1, none⟩) (by (simp; done)); have KP := Below.cell dA (p := ⟨w.heap.size + 1 + 1, 0, none⟩) (by (simp; done)); have LW := Below.frozen dA (p := ⟨w.heap.size + 1 + 1, 0, none⟩) (by (simp; done)); have KQ := Below.cell dA (p := ⟨w.heap.size + 1 + 1, 1, none⟩) (by (simp; done)); have LX := Below.frozen dA (p := ⟨w.heap.size + 1 + 1, 1, none⟩) (by (simp; done)); have zv := Below.size dA; (try simp at zv); have OQ : ¬ w1.heap.size = w.heap.size := (by omega); have OR : ¬ w1.heap.size = w.heap.size + 1 := (by omega); have OS : ¬ w1.heap.size = w.heap.size + 1 + 1 := (by omega); replace pC := Lib.hid pC))
   | (go_at_call 110; ((with_reducible refine (AA _ _ _ _ os _ qB yO (by omega)).mono ?_); rintro e w2 ⟨cz, l2, rfl, h2, dy⟩; rw [pC.out, hv.out] at h2; have KR := Below.cell dy (p := ⟨w.heap.size, 0, none⟩) (by (simp; omega)); have LY := Below.frozen dy (p := ⟨w.heap.size, 0, none⟩) (by (simp; omega)); have KS := Below.cell dy (p := ⟨w.heap.size, 1, none⟩) (by (simp; omega)); have LZ := Below.frozen dy (p := ⟨w.heap.size, 1, none⟩) (by (simp; omega)); have KT := Below.cell dy (p := ⟨w.heap.size + 1, 0, none⟩) (by (simp; omega)); have L0 := Below.frozen dy (p := ⟨w.heap.size + 1, 0, none⟩) (by (simp; omega)); have KU := Below.cell dy (p := ⟨w.heap.size + 1, 1, none⟩) (by (simp; omega)); have L1 := Below.frozen dy (p := ⟨w.heap.size + 1, 1, none⟩) (by (simp; omega)); have KV := Below.cell dy (p := ⟨w.heap.size + 1 + 1, 0, none⟩) (by (simp; omega)); have L2 := Below.frozen dy (p := ⟨w.heap.size + 1 + 1, 0, none⟩) (by (simp; omega)); have KW := Below.cell dy (p := ⟨w.heap.size + 1 + 1, 1, none⟩) (by (simp; omega)); have L3 := Below.frozen dy (p := ⟨w.heap.size + 1 + 1, 1, none⟩) (by (simp; omega)); have zw := Below.size dy; (try simp at zw); have OT : ¬ w2.heap.size = w.heap.size := (by omega); have OU : ¬ w2.heap.size = w.heap.size + 1 := (by omega); have OV : ¬ w2.heap.size = w.heap.size + 1 + 1 := (by omega))))
 go_wp2_with fail
 refine bodyPost_ret (v := .agg #[.bool cz, .slice hQ l2 c1]) (by simp only [results, Tryz.results71]; go_simp) rfl ⟨_, _, _, _, rfl, ?_, ?_, fun a e => ha (by simp; omega) (hF a e)⟩
 ·(repeat first | with_reducible assumption | with_reducible refine eR.put ?_ ?_ | focus ((with_reducible refine hg.new ?_); simp; done) | with_reducible refine hg.drew ?_ | with_reducible refine hg.call ?_ dy | with_reducible refine hg.call ?_ dA)
 ·(repeat first | with_reducible exact Below.refl _ _ | with_reducible refine dV ?_ _ | focus ((with_reducible refine iR ?_ _ _ _ ?_); rotate_left; omega) | with_reducible refine Below.drew ?_ | with_reducible refine fa ?_ dy | with_reducible refine fa ?_ dA)
theorem aeE (x y : Bool) (A B : Option Addr) (l c cb c' : Nat) (n m : Int) (w : World) (h : eR w x A l c n) (k : eR w y B cb c' m) (ak : l ≤ 900) (e1 : cb ≤ 900) :
  Calls ag 71 #[.agg #[.bool x, .slice A l c], .agg #[.bool y, .slice B cb c']] w (rz (n + m) w) := by
 by_cases e : x = y
 ·subst e;exact aeF x A B l c cb c' n m w h k ak e1
 ·have im : (x == y) = false := by simpa using e
  rcases hz n.natAbs m.natAbs with q | q
  ·exact aeD x y A B l c cb c' n m w h k ak e1 im q
  ·exact aeC x y A B l c cb c' n m w h k ak e1 im q
end Go.Proofs.YtbcecodakfejaaaGreat
namespace Go.Proofs.YtbcecodakfejaaaGreat
open Go.RowKit
theorem V3 {os : List Int} (h : dD os) {y : Int} (ai : 0 ≤ y) : (10000 : Int) ^ os.length * y ≤ gU os y := by
 induction os with
 | nil => simp [gU]
 | cons d ds b5 =>
  have h1 := h.head;have h2 := b5 h.tail;rw [iI, oa, gU, hA (10000 ^ ds.length) 10000, kv];omega
structure ry (w wr : World) (x : Bool) (N : Nat) (v : Value) (k : Nat) (os : List Int) (z : Nat) : Prop where
 fw : dd wr w.heap.size (.bool false) (.slice none 0 0)
 b1 : dd wr (w.heap.size + 1) (.bool x) v
 own : wr.ownsRow (w.heap.size + 2) 3 1 v k (os.map (Value.int .i64))
 len : os.length = k
 dg : dD os
 val : gU os z = N
 vC : z = 0 → qk os
 below : Below w.heap.size w wr
theorem ry.short {w wr : World} {x : Bool} {N : Nat} {v : Value} {k : Nat} {os : List Int} {z : Nat} (h : ry w wr x N v k os z) (fi : N < 100000000000000000000) (aP : 0 < z) : k < 5 := by
 rcases hz k 5 with q | q
 ·exact q
 ·exfalso;have h1 := V3 h.dg (y := z) (by omega);rw [h.val, h.len] at h1;have h2 : (10000 : Int) ^ 5 ≤ 10000 ^ k := Qm q;have an : (10000 : Int) ^ k * 1 ≤ 10000 ^ k * z := pY (by omega) (mQ (Qn k));have aE : (10000 : Int) ^ 5 = 100000000000000000000 := by decide
  omega
theorem Po {w wr w1 : World} {x : Bool} {N : Nat} {v v' : Value} {k : Nat} {os : List Int} {z : Nat} {o : Obj} (h : ry w wr x N v k os z) (aP : 0 < z)
  (cp : w1.ownsRow (w.heap.size + 2) 3 1 v' (k + 1) (os.map (Value.int .i64) ++ [.int .i64 ((z % 10000 : Nat) : Int)])) (aq : (wr.alloc o).grownBy w1 v.ownBlock) :
  dd w1 (w.heap.size + 1) (.bool x) v ∧ ry w (w1.setCell ⟨w.heap.size + 1, 1, none⟩ v') x N v' (k + 1) (os ++ [((z % 10000 : Nat) : Int)]) (z / 10000) := by
 have MG := h.fw.lt;have dA := h.b1.lt;have bU : ∀ j, j < w.heap.size + 2 → some j ≠ v.ownBlock := fun j ae e => by have := h.own.lt j e.symm; omega
 have N2 : ∀ (b : Nat) (u oe : Value), b < w.heap.size + 2 → dd wr b u oe → dd w1 b u oe := fun b u oe ab eJ => by
  have bg := eJ.lt;obtain ⟨⟨c1, c2⟩, f1, f2⟩ := eJ;have kf := aq.block b (by simp; omega) (bU b ab);refine ⟨⟨?_, ?_⟩, ?_, ?_⟩
  ·rw [World.cell?_of_block (w := wr.alloc o) (a := ⟨b, 0, none⟩) kf, World.cell?_alloc_lt _ _ _ (by omega)]; exact c1
  ·rw [World.cell?_of_block (w := wr.alloc o) (a := ⟨b, 1, none⟩) kf, World.cell?_alloc_lt _ _ _ (by omega)]; exact c2
  ·rw [World.frozen?_of_block (w := wr.alloc o) (a := ⟨b, 0, none⟩) kf, World.frozen?_alloc_past _ _ _ (by omega)]; exact f1
  ·rw [World.frozen?_of_block (w := wr.alloc o) (a := ⟨b, 1, none⟩) kf, World.frozen?_alloc_past _ _ _ (by omega)]; exact f2
 have bl := N2 _ _ _ (by omega) h.b1;refine ⟨bl, ⟨(N2 _ _ _ (by omega) h.fw).set _ (by omega), ?_, ?_, by rw [cJ, h.len]; rfl, h.dg.snoc (by omega) (by omega), ?_, fun q => ?_, ?_⟩⟩
 ·obtain ⟨⟨c1, c2⟩, f1, f2⟩ := bl;refine ⟨⟨?_, World.cell?_setCell_same _ _ _ c2⟩, ?_, ?_⟩
  ·rw [World.cell?_setCell_other _ _ _ _ (by simp)]; exact c1
  ·go_simp
  ·go_simp
 ·rw [List.map_append]; exact ownsRow_setCell_below cp (by simp) _
 ·rw [wJ, ← h.val]; congr 1; omega
 ·intro hp;rw [cJ];simp;omega
 ·refine (((h.below.alloc h.below.size o).grown aq (by have := h.below.size; simp; omega) (fun j ae => by have := (h.own.lt j ae).1; omega))).setCell (by simp) _
theorem ab7 {x : Bool} {N : Nat} {os : List Int} (hd : dD os) (hv : gU os 0 = N) (ax : qk os) {n : Int} (aa : n = hP x N) (hs : x = true → 0 < N) : Std x os n := by
 refine ⟨hd, ax, fun q e => ?_, by rw [aa]; unfold bQ; rw [hv]⟩;have := hs q;rw [e] at hv;simp [gU] at hv;omega
theorem Pn {w wr : World} {x : Bool} {N : Nat} {v : Value} {k : Nat} {os : List Int} {z : Nat} (h : ry w wr x N v k os z) (aP : z = 0) {n : Int} (aa : n = hP x N) (hs : x = true → 0 < N) :
  ∃ A c, v = .slice A k c ∧ eR wr x A k c n ∧ Fr (w.heap.size + 2) A := by
 obtain ⟨A, c, rfl, eK⟩ := e2.own h.own;have hF := Fr.own h.own;have hv := h.val;have ax := h.vC aP;rw [aP] at hv;exact ⟨A, c, rfl, ⟨os, eK, ab7 h.dg hv ax aa hs⟩, hF⟩
end Go.Proofs.YtbcecodakfejaaaGreat
namespace Go.Proofs.YtbcecodakfejaaaGreat
open Go.RowKit
theorem Pp (w : World) (x : Bool) (n : Nat) : ry w ((w.alloc (.cells #[.bool false, .slice none 0 0] 85)).alloc (.cells #[.bool x, .slice none 0 0] 85)) x n (.slice none 0 0) 0 [] n :=
 ⟨(dd.new rfl).alloc _, dd.new (by simp), World.ownsRow_nil _ _ _ _, rfl, dD.nil, rfl, fun _ => O3, by (repeat first | with_reducible exact Below.refl _ _ | with_reducible refine dV ?_ _)⟩
theorem ab6 (n : Nat) (w : World) (h : n < 9223372036854775808) : Calls ag 66 #[.int .i64 n] w (rz n w) := by
 obtain ⟨i0, nj, km, nu, kn⟩ := info_parts zA;have pi := Lib.hid nj;have mY := Lib.hid km;have oo := Lib.hid nu;have oq := Lib.hid kn;clear nj km nu kn;have ST := Lib.hid (Pp w false n);have hd : decide ((n : Int) < 0) = false := c3 (by omega)
 go_enter Tryz.func66, Tryz.ntmps66
 go_wp2
 go_loopw [0] (fun i wr => ∃ (z k : Nat) (v : Value) (os : List Int), i = .int .i64 z ∧ z ≤ n ∧ ry w wr false n v k os z) (fun i _ => (intOf i).toNat)
 case atStart => exact ⟨n, 0, _, [], rfl, dJ _, ST.out⟩
 case round =>
  obtain ⟨z, k, v, os, rfl, Zi, ap⟩ := hrel;obtain ⟨⟨c1, c2⟩, f1, f2⟩ := id ap.b1;obtain ⟨⟨ke, uP⟩, f3, f4⟩ := id ap.fw;have iO := Lib.hid ap.own;have lP := Lib.hid ap;have bI := ap.b1.lt
  by_cases aP : z = 0
  ·obtain ⟨A, c, rfl, fi, hF⟩ := Pn ap aP (n := n) rfl (fun h => by cases h);have ux := Lib.hid ap.below;have EA := Lib.hid ap.fw;subst aP;clear ap
   go_wp2
   refine bodyPost_ret (v := .agg #[.bool false, .slice A k c]) (by simp only [results, Tryz.results66]; go_simp) rfl ⟨_, _, _, _, rfl, ?_, ?_, fun a e => ha (by omega) (hF a e)⟩
   ·exact fi.put (hg.of EA.out)
   ·exact iR (iR ux.out _ _ _ (by omega)) _ _ _ (by omega)
  ·have km : 0 < z := by omega
   have Yh := ap.short (by omega) km;have bU : ((z : Int) != 0) = true := by simpa using aP
   have N := Lib.hid (fun (w1 : World) (v' : Value) (o : Obj) cp aq => Po (w1 := w1) (v' := v') (o := o) lP.out km cp aq);clear ap aP
   go_wp2_with (at_builtin; refine wpList_append_own _ rfl _ _ 32 rfl (w.heap.size + 2) 3 i0 (.int .i64 0) 1 8 Tryz.underlying32 pi.out mY.out oo.out oq.out rfl (by decide) _ _ _ rfl (iO.out.alloc _) ⟨wr.heap.size, 0, none⟩ 1 1 [.int .i64 ((z % 10000 : Nat) : Int)] rfl rfl (cell_one_new _ _ _) (by simp [Value.oneCell']) (by simp only [maxLen]; omega) (by omega) (by simp; omega) ?_; intro v' w1 lv ls pI; clear pI; have R := N.out w1 v' _ lv ls; clear lv ls c1 c2 f1 f2 ke uP f3 f4; obtain ⟨⟨⟨c1, c2⟩, f1, f2⟩, R⟩ := R; obtain ⟨dR, c', rfl, wT⟩ := e2.own R.own; clear wT; replace R := Lib.hid R)
   refine ⟨⟨z / 10000, k + 1, _, _, by go_num, by omega, R.out⟩, ?_⟩;simp [intOf]; omega
theorem neg_tmod (y : Nat) : (-(y : Int)).tmod 10000 = -((y : Int) % 10000) := by rw [Int.neg_tmod, Int.tmod_eq_emod_of_nonneg (by omega)]
theorem neg_tdiv (y : Nat) : (-(y : Int)).tdiv 10000 = -((y : Int) / 10000) := by rw [Int.neg_tdiv, Int.tdiv_eq_ediv_of_nonneg (by omega)]
theorem ab5 (n : Nat) (w : World) (h : n ≤ 9223372036854775808) (aD : 0 < n) : Calls ag 66 #[.int .i64 (-(n : Int))] w (rz (-(n : Int)) w) := by
 obtain ⟨i0, nj, km, nu, kn⟩ := info_parts zA;have pi := Lib.hid nj;have mY := Lib.hid km;have oo := Lib.hid nu;have oq := Lib.hid kn;clear nj km nu kn;have ST := Lib.hid (Pp w true n);have hd : decide (-(n : Int) < 0) = true := cw (by omega)
 go_enter Tryz.func66, Tryz.ntmps66
 go_wp2
 go_loopw [0] (fun i wr => ∃ (z k : Nat) (v : Value) (os : List Int), i = .int .i64 (-(z : Int)) ∧ z ≤ n ∧ ry w wr true n v k os z) (fun i _ => (-intOf i).toNat)
 case atStart => exact ⟨n, 0, _, [], rfl, dJ _, ST.out⟩
 case round =>
  obtain ⟨z, k, v, os, rfl, Zi, ap⟩ := hrel;obtain ⟨⟨c1, c2⟩, f1, f2⟩ := id ap.b1;obtain ⟨⟨ke, uP⟩, f3, f4⟩ := id ap.fw;have iO := Lib.hid ap.own;have lP := Lib.hid ap;have bI := ap.b1.lt
  by_cases aP : z = 0
  ·obtain ⟨A, c, rfl, fi, hF⟩ := Pn ap aP (n := -(n : Int)) rfl (fun _ => aD);have ux := Lib.hid ap.below;have EA := Lib.hid ap.fw;subst aP;clear ap;rw [show (-(((0 : Nat)) : Int)) = 0 from rfl]
   go_wp2
   refine bodyPost_ret (v := .agg #[.bool true, .slice A k c]) (by simp only [results, Tryz.results66]; go_simp) rfl ⟨_, _, _, _, rfl, ?_, ?_, fun a e => ha (by omega) (hF a e)⟩
   ·exact fi.put (hg.of EA.out)
   ·exact iR (iR ux.out _ _ _ (by omega)) _ _ _ (by omega)
  ·have km : 0 < z := by omega
   have Yh := ap.short (by omega) km;have bU : (-(z : Int) != 0) = true := by simpa using aP
   have N := Lib.hid (fun (w1 : World) (v' : Value) (o : Obj) cp aq => Po (w1 := w1) (v' := v') (o := o) lP.out km cp aq);have t1 := neg_tmod z;have t2 := neg_tdiv z;clear ap aP
   by_cases hm : (z : Int) % 10000 = 0
   ·have MZ : z % 10000 = 0 := by omega
    replace N : Hid (∀ (w1 : World) (v' : Value) (o : Obj), w1.ownsRow (w.heap.size + 2) 3 1 v' (k + 1) (os.map (Value.int .i64) ++ [.int .i64 0]) → (wr.alloc o).grownBy w1 v.ownBlock → dd w1 (w.heap.size + 1) (.bool true) v ∧ ry w (w1.setCell ⟨w.heap.size + 1, 1, none⟩ v') true n v' (k + 1) (os ++ [0]) (z / 10000)) := by
     intro w1 v' o h1 h2;have := N.out w1 v' o;rw [MZ] at this;exact this h1 h2
    rw [hm] at t1;rw [show (-(0 : Int)) = 0 from rfl] at t1;clear hm MZ
    go_wp2_with (at_builtin; refine wpList_append_own _ rfl _ _ 32 rfl (w.heap.size + 2) 3 i0 (.int .i64 0) 1 8 Tryz.underlying32 pi.out mY.out oo.out oq.out rfl (by decide) _ _ _ rfl (iO.out.alloc _) ⟨wr.heap.size, 0, none⟩ 1 1 [.int .i64 0] rfl rfl (cell_one_new _ _ _) (by simp [Value.oneCell']) (by simp only [maxLen]; omega) (by omega) (by simp; omega) ?_; intro v' w1 lv ls pI; clear pI; have R := N.out w1 v' _ lv ls; clear lv ls c1 c2 f1 f2 ke uP f3 f4; obtain ⟨⟨⟨c1, c2⟩, f1, f2⟩, R⟩ := R; obtain ⟨dR, c', rfl, wT⟩ := e2.own R.own; clear wT; replace R := Lib.hid R)
    refine ⟨⟨z / 10000, k + 1, _, _, by go_num, by omega, R.out⟩, ?_⟩;simp [intOf]; omega
   ·have fR : (0 : Int) < (z : Int) % 10000 := by omega
    clear hm
    go_wp2_with (at_builtin; refine wpList_append_own _ rfl _ _ 32 rfl (w.heap.size + 2) 3 i0 (.int .i64 0) 1 8 Tryz.underlying32 pi.out mY.out oo.out oq.out rfl (by decide) _ _ _ rfl (iO.out.alloc _) ⟨wr.heap.size, 0, none⟩ 1 1 [.int .i64 ((z % 10000 : Nat) : Int)] rfl rfl (cell_one_new _ _ _) (by simp [Value.oneCell']) (by simp only [maxLen]; omega) (by omega) (by simp; omega) ?_; intro v' w1 lv ls pI; clear pI; have R := N.out w1 v' _ lv ls; clear lv ls c1 c2 f1 f2 ke uP f3 f4; obtain ⟨⟨⟨c1, c2⟩, f1, f2⟩, R⟩ := R; obtain ⟨dR, c', rfl, wT⟩ := e2.own R.own; clear wT; replace R := Lib.hid R)
    refine ⟨⟨z / 10000, k + 1, _, _, by go_num, by omega, R.out⟩, ?_⟩;simp [intOf]; omega
theorem aeK (n : Int) (w : World) (aD : -9223372036854775808 ≤ n) (h1 : n < 9223372036854775808) : Calls ag 66 #[.int .i64 n] w (rz n w) := by
 rcases o9 n 0 with q | q
 ·obtain ⟨m, rfl⟩ : ∃ m : Nat, n = -(m : Int) := ⟨n.natAbs, by omega⟩;exact ab5 m w (by omega) (by omega)
 ·obtain ⟨m, rfl⟩ := mf q;exact ab6 m w (by omega)
end Go.Proofs.YtbcecodakfejaaaGreat
namespace Go.Proofs.YtbcecodakfejaaaGreat
open Go.RowKit
theorem aek (j : Nat) : (0 : Int) < 2 ^ j ∧ (2 : Int) ^ j < 10000 ^ (j + 1) := by
 induction j with
 | zero => decide
 | succ j b5 => rw [oa, oa (10000 : Int) (j + 1)]; omega
end Go.Proofs.YtbcecodakfejaaaGreat
