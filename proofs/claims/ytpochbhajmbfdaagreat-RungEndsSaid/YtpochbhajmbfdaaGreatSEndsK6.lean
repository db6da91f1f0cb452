/-
  My own texts, without what this claim does not need. My own text.
-/
import Derived.Deep.RegionHeld3
import Derived.StillTail
import Derived.Deep.QuietTactic
import Derived.OwnWalk
import Derived.Laws.OwnMore
import Derived.Maps.AppendAt
import Derived.IntWalk
import Derived.Shelf.Small.Bits
import Derived.Shelf.Strconv.Itoa0
import Derived.Shelf.Bits.Mul64
import Derived.Test.YtpochbhajmbfdaaGreatProg
import Derived.WalkKit
import Derived.Lib.ItoaNum
import Derived.Deep.DeepCutAuto
import Derived.Test.YtpochbhajmbfdaaGreatSEndsK5
set_option maxRecDepth 100000
set_option maxHeartbeats 64000000
set_option linter.unusedVariables false
set_option linter.unusedSimpArgs false
set_option linter.unusedSectionVars false
open Go.Proofs.Tryz renaming prog → ai
namespace Go.Proofs.YtpochbhajmbfdaaGreat
open Go.RowKit
def cI (k : Nat) (cs : List AC) : Mem := bQ cb k cs
theorem hl {k j : Nat} {cs ds : List AC} (h : cI k cs j = some ds) : j = k ∧ ds = cs := by
 unfold cI at h
 by_cases e : j = k
 ·subst e; rw [cr] at h; exact ⟨rfl, (ms h).symm⟩
 ·rw [cl _ _ e] at h; cases h
theorem fI {k j : Nat} {r q : bP} (h : bJ k r j = some q) : j = k ∧ q = r := by
 unfold bJ at h
 by_cases e : j = k
 ·subst e; rw [cr] at h; exact ⟨rfl, (ms h).symm⟩
 ·rw [cl _ _ e] at h; cases h
theorem vu {α : Type} (f : Nat → Option α) (k : Nat) (x : α) : b0 (bQ (fun _ => none) k x) f = bQ f k x := by
 funext j
 by_cases e : j = k
 ·subst e; rw [cr]; exact hn (cr _ _ _)
 ·rw [cl _ _ e]; exact ho (cl _ _ e)
theorem Pb {α : Type} (f : Nat → Option α) : b0 (fun _ => none) f = f := by funext j; exact ho rfl
def xD (n : Nat) (args : List aj) (m : Mem) : aC := ⟨n, fun t => args[t]?, m⟩
def tr (P : Program) (fn : Func) (m0 : Mem) (R0 : aJ) (Post : aj → Mem → aJ → Prop) (R : aJ) (s : aC) : Prop :=
 ∃ xs r aG az, fn.results.toList.map (iw P s) = xs.map some ∧ (packed xs).bp r ∧ Post r aG az ∧ (∀ k cs, aG k = some cs → s.mem k = some cs) ∧ bM az R ∧ (∀ j, r.owns j → ∃ cs, aG j = some cs) ∧ (∀ k cs x j, aG k = some cs → x ∈ cs → x.owns j → ∃ au, aG j = some au) ∧ (∀ k cs, m0 k = some cs → ∃ au, aG k = some au) ∧ ∀ i r, R0 i = some r → ∃ a7, az i = some a7
def jw (P : Program) (fn : Func) (m0 : Mem) (R0 : aJ) (Post : aj → Mem → aJ → Prop) : Exit → aJ → aC → Prop
 | .normal, R, s | .ret, R, s => tr P fn m0 R0 Post R s
 | _, _, _ => False
section
variable {P : Program}
theorem dh {f : FuncId} {fn : Func} {c : Code} {args : List aj} {m0 : Mem} {R0 : aJ} {Post : aj → Mem → aJ → Prop} (ar : P.funcs[f]? = some fn) (ab : fn.body = some c) (aE : args.length ≤ fn.ntmps) (wN : ∀ k cs, m0 k = some cs → fn.ntmps ≤ k)
  (h : fq P c (jw P fn m0 R0 Post) R0 (xD fn.ntmps args m0)) : c6 P f args m0 R0 Post := by
 refine ⟨fun U ad W vs cK ef dJ => ?_⟩;have ao := dJ.1;refine calls_of_wp ar ab ?_;have ok : (xD fn.ntmps args m0).cN := ⟨fun t av j aD ae => ef av (dG aD) j ae, fun k cs x j af aa ae => cK.fG k cs x j af aa ae⟩
 let bt : eX := ⟨W, fun b => b < W.heap.size ∧ ¬ ec ad m0 R0 b, fun _ h => h.1, fun k => match m0 k with | some _ => some (ad k) | none => none, []⟩
 have bj : ∀ b, ec ad m0 R0 b → b < W.heap.size := by
  rintro b (⟨k, cs, af, rfl⟩ | ⟨i, r, hi, aw⟩)
  ·obtain ⟨vs, ty, h1, _⟩ := cK.dx k cs af;exact (kr.1 h1).1
  ·exact (cK.rows i r hi).1.lt aw
 have W4 : ∀ b, U b → ¬ ec ad m0 R0 b := by
  rintro b hu (⟨k, cs, af, rfl⟩ | ⟨i, r, hi, aw⟩)
  ·obtain ⟨_, _, _, _, h⟩ := cK.dx k cs af; exact h hu
  ·exact ((cK.rows i r hi).2.2 b aw).1 hu
 have Gz : ug bt (xD fn.ntmps args m0) ad := fun k b af => by
  cases hm : m0 k with
  | none => simp only [bt, hm] at af; cases af
  | some cs => simp only [bt, hm, hK] at af; exact ⟨wN k cs hm, af⟩
 have jt : ∀ b, U b → b < W.heap.size → (xD fn.ntmps args m0).free (fun b => U b ∨ W.heap.size ≤ b) ad b ∧ W.heap[b]? = W.heap[b]? := fun b hu _ => ⟨⟨.inl hu, fun k cs af e => W4 b hu (.inl ⟨k, cs, af, e⟩)⟩, rfl⟩
 have ax : er bt (fun b => U b ∨ W.heap.size ≤ b ∨ ec ad m0 R0 b) R0 (xD fn.ntmps args m0) { tmps := vs.toArray ++ Array.replicate (fn.ntmps - vs.toArray.size) undef, defers := [] } W (fun b => U b ∨ W.heap.size ≤ b) ad := by
  refine ⟨fun b ab => .inr (.inl ab), fun b ab => ab.elim .inl fun h => .inr (.inl h), ?_, fun k cs af ar => ar.2 (.inl ⟨k, cs, af, rfl⟩), ⟨rfl, rfl, rfl, dW _, fun _ _ => rfl⟩, fun i r hi => ?_, cK.apart, fun i r g hi aw => ⟨fun ar => ar.2 (.inr ⟨i, r, hi, aw⟩), .inr (.inr (.inr ⟨i, r, hi, aw⟩))⟩, Gz⟩
  ·refine ⟨rfl, by simp [xD]; omega, fun t av aD => ?_, fun k cs af => ?_, cK.inj, jN.refl _, fun b ab => .inr ab, wL _ _ _⟩
   ·have CI : t < vs.length := by rw [← ao]; exact (bX.1 aD).1
    refine ⟨vs[t], by simp [Array.getElem?_append, CI], ?_⟩;exact (dJ.2 t av _ aD (cp CI)).map jt fun _ _ => rfl
   ·obtain ⟨us, ty, h1, h2, ap⟩ := cK.dx k cs af;exact ⟨us, ty, h1, h2.map jt fun _ _ _ _ => rfl, fun ar => ar.2 k cs af rfl⟩
  ·obtain ⟨lh, ak, aw⟩ := cK.rows i r hi;refine ⟨lh.kept ak (fun _ _ => rfl) (dW _) jt, ak, fun g q => ⟨?_, fun k cs af => (aw g q).2 k cs af⟩⟩;rintro (hu | hu)
   ·exact (aw g q).1 hu
   ·have := bj g (.inr ⟨i, r, hi, q⟩); omega
 refine wp_mono (h ok bt _ _ W ⟨_, ad, ax⟩).top ?_;rintro e a' w' ⟨eV, s', dC, ⟨ei, bg, cu⟩, al⟩
 have fin : tr P fn m0 R0 Post eV s' → a'.defers = [] ∧ ∃ v, (results fn a'.tmps).run P w' = .ok v w' ∧ ∃ aV r aG az bg cC, Ending.returned v = .returned aV ∧ Post r aG az ∧ e1 cC bg w' aG az ∧ c9 cC bg w' r aV ∧ (∀ j, r.owns j → ∃ cs, aG j = some cs) ∧
   (∀ k cs, m0 k = some cs → bg k = ad k ∧ ∃ au, aG k = some au) ∧ (∀ i r, R0 i = some r → ∃ a7, az i = some a7) ∧
   (∀ b, cC b → U b ∨ W.heap.size ≤ b ∨ ec ad m0 R0 b) ∧ (∀ b, ec bg aG az b → ec ad m0 R0 b ∨ W.heap.size ≤ b) ∧ jN (G4 ad W m0 R0) w' := by
  rintro ⟨xs, r, aG, az, h1, h2, ap, aL, dk, fV, jo, pq, iG⟩;obtain ⟨v, q1, q2⟩ := P7 cu.rel h1;refine ⟨cu.rel.pH, v, q1, v, r, aG, az, bg, s'.free ei bg, rfl, ap, cu.part aL dk jo, h2 _ _ _ _ q2, fV, fun k cs af => ⟨(cu.jT k (ad k) (by simp [bt, af])).2, pq k cs af⟩, iG, fun b ab => cu.sub b ab.1, ?_, ⟨cu.below.os, cu.below.tape, cu.below.output, cu.below.size, fun b ab => cu.below.block b ab⟩⟩;rintro b (⟨k, cs, af, rfl⟩ | ⟨i, q, hi, aw⟩)
  ·have G2 := cu.oy k cs (aL k cs af);rcases iQ (bg k) W.heap.size with mL | mL
   ·exact .inl (Classical.byContradiction fun aE => G2 ⟨mL, aE⟩)
   ·exact .inr mL
  ·have G2 := (cu.hot i q b (dk i q hi) aw).1;rcases iQ b W.heap.size with mL | mL
   ·exact .inl (Classical.byContradiction fun aE => G2 ⟨mL, aE⟩)
   ·exact .inr mL
 cases e with
 | normal => exact fin al
 | ret => exact fin al
 | _ => exact al.elim
end
def AC.ba (bK : Nat → Nat) : AC → AC
 | .own k o => .own (bK k) o
 | .c v => .c v
 | .p R => .p R
def bI.ba (bK : Nat → Nat) : bI → bI
 | .one x => .one (x.ba bK)
 | .agg xs => .agg (xs.map (AC.ba bK))
def aj.ba (bK : Nat → Nat) : aj → aj
 | .w x => .w (x.ba bK)
 | .cZ xs => .cZ (xs.map (bI.ba bK))
def Mem.ba (bK : Nat → Nat) (m : Mem) : Mem := fun j => (m (bK j)).map fun cs => cs.map (AC.ba bK)
def aJ.ba (b7 : Nat → Nat) (R : aJ) : aJ := fun j => R (b7 j)
section
variable {P : Program} {U : Nat → Prop} {ad : Nat → Nat} {W : World} {bK b7 h4 : Nat → Nat}
theorem gn.ba {x : AC} {v : Value} : gn U ad W (x.ba bK) v ↔ gn U (fun k => ad (bK k)) W x v := by cases x <;> exact Iff.rfl
theorem bV.ba {xs : List AC} {vs : List Value} : bV U ad W (xs.map (AC.ba bK)) vs ↔ bV U (fun k => ad (bK k)) W xs vs := by
 constructor
 ·rintro ⟨h1, h2⟩;refine ⟨by simpa using h1, fun i x v aa hv => gn.ba.1 (h2 i (x.ba bK) v (by rw [eG, aa]; rfl) hv)⟩
 ·rintro ⟨h1, h2⟩;refine ⟨by simpa using h1, fun i x v aa hv => ?_⟩;rw [eG] at aa;cases ah : xs[i]? with
  | none => rw [ah] at aa; cases aa
  | some y => rw [ah] at aa; cases aa; exact gn.ba.2 (h2 i y v ah hv)
theorem gC.ba {x : bI} {v : Value} : gC U ad W (x.ba bK) v ↔ gC U (fun k => ad (bK k)) W x v := by
 cases x with
 | one x => exact gn.ba
 | agg xs =>
  constructor
  ·rintro ⟨vs, e, h⟩; exact ⟨vs, e, bV.ba.1 h⟩
  ·rintro ⟨vs, e, h⟩; exact ⟨vs, e, bV.ba.2 h⟩
theorem c9.ba {x : aj} {v : Value} : c9 U ad W (x.ba bK) v ↔ c9 U (fun k => ad (bK k)) W x v := by
 cases x with
 | w x => exact gC.ba
 | cZ xs =>
  constructor
  ·rintro ⟨vs, e, ao, h⟩;exact ⟨vs, e, by simpa using ao, fun i x v aa hv => gC.ba.1 (h i (x.ba bK) v (by rw [eG, aa]; rfl) hv)⟩
  ·rintro ⟨vs, e, ao, h⟩;refine ⟨vs, e, by simpa using ao, fun i x v aa hv => ?_⟩;rw [eG] at aa;cases ah : xs[i]? with
   | none => rw [ah] at aa; cases aa
   | some y => rw [ah] at aa; cases aa; exact gC.ba.2 (h i y v ah hv)
theorem AC.D4 {x : AC} {j : Nat} (h : (x.ba bK).owns j) : ∃ i, x.owns i ∧ j = bK i := by
 cases x with
 | own k o => exact ⟨k, rfl, h⟩
 | c v => cases h
 | p R => cases h
theorem AC.DL {x : AC} {j : Nat} (h : x.owns j) : (x.ba bK).owns (bK j) := by
 cases x with
 | own k o => cases h; rfl
 | c v => cases h
 | p R => cases h
theorem bI.KO (x : bI) : (x.ba bK).cells = x.cells.map (AC.ba bK) := by cases x <;> rfl
theorem aj.D4 {x : aj} {j : Nat} (h : (x.ba bK).owns j) : ∃ i, x.owns i ∧ j = bK i := by
 have key : ∀ y : bI, (y.ba bK).owns j → ∃ i, y.owns i ∧ j = bK i := by
  rintro y ⟨z, aZ, ae⟩;rw [bI.KO] at aZ;obtain ⟨u, hu, rfl⟩ := ir.1 aZ;obtain ⟨i, h1, h2⟩ := AC.D4 ae;exact ⟨i, ⟨u, hu, h1⟩, h2⟩
 cases x with
 | w x => exact key x h
 | cZ xs =>
  obtain ⟨y, ah, ae⟩ := h;obtain ⟨u, hu, rfl⟩ := ir.1 ah;obtain ⟨i, h1, h2⟩ := key u ae;exact ⟨i, ⟨u, hu, h1⟩, h2⟩
theorem aj.DL {x : aj} {j : Nat} (h : x.owns j) : (x.ba bK).owns (bK j) := by
 have key : ∀ y : bI, y.owns j → (y.ba bK).owns (bK j) := by
  rintro y ⟨z, aZ, ae⟩;exact ⟨z.ba bK, by rw [bI.KO]; exact ir.2 ⟨z, aZ, rfl⟩, AC.DL ae⟩
 cases x with
 | w x => exact key x h
 | cZ xs =>
  obtain ⟨y, ah, ae⟩ := h;exact ⟨y.ba bK, ir.2 ⟨y, ah, rfl⟩, key y ae⟩
theorem Mem.qR {m : Mem} {j : Nat} {cs : List AC} (h : Mem.ba bK m j = some cs) : ∃ ds, m (bK j) = some ds ∧ cs = ds.map (AC.ba bK) := by
 unfold Mem.ba at h;cases hm : m (bK j) with
 | none => rw [hm] at h; cases h
 | some ds => rw [hm] at h; exact ⟨ds, rfl, (ms h).symm⟩
theorem Mem.qQ (fs : ∀ j, bK (bK j) = j) {m : Mem} {k : Nat} {cs : List AC} (h : m k = some cs) : Mem.ba bK m (bK k) = some (cs.map (AC.ba bK)) := by
 unfold Mem.ba; rw [fs, h]; rfl
theorem ec.ba (fs : ∀ j, bK (bK j) = j) (fF : ∀ j, b7 (h4 j) = j) {m : Mem} {R : aJ} {b : Nat} : ec ad (m.ba bK) (R.ba b7) b ↔ ec (fun k => ad (bK k)) m R b := by
 constructor
 ·rintro (⟨k, cs, af, e⟩ | ⟨i, r, hi, aw⟩)
  ·obtain ⟨ds, h1, _⟩ := Mem.qR af;exact .inl ⟨bK k, ds, h1, by simp only [fs]; exact e⟩
  ·exact .inr ⟨b7 i, r, hi, aw⟩
 ·rintro (⟨k, cs, af, e⟩ | ⟨i, r, hi, aw⟩)
  ·exact .inl ⟨bK k, _, Mem.qQ fs af, e⟩
  ·exact .inr ⟨h4 i, r, by unfold aJ.ba; rw [fF]; exact hi, aw⟩
theorem e1.ba (fs : ∀ j, bK (bK j) = j) (fF : ∀ j, b7 (h4 j) = j) (vb : ∀ j, h4 (b7 j) = j) {m : Mem} {R : aJ} : e1 U ad W (m.ba bK) (R.ba b7) ↔ e1 U (fun k => ad (bK k)) W m R := by
 have Nf : ∀ {a b : Nat}, bK a = bK b → a = b := fun {a b} h => by rw [← fs a, h, fs]
 have Y0 : ∀ {a b : Nat}, b7 a = b7 b → a = b := fun {a b} h => by rw [← vb a, h, vb]
 have Y1 : ∀ {a b : Nat}, h4 a = h4 b → a = b := fun {a b} h => by rw [← fF a, h, fF]
 constructor
 ·intro h;refine ⟨fun k cs af => ?_, fun k cs x j af aa ae => ?_, fun k k' cs au af eL e => ?_, fun i r hi => ?_, fun i j r q hi ae gu g aw => h.apart (h4 i) (h4 j) r q (by unfold aJ.ba; rw [fF]; exact hi) (by unfold aJ.ba; rw [fF]; exact ae) (fun e => gu (Y1 e)) g aw⟩
  ·obtain ⟨vs, ty, h1, h2, ap⟩ := h.dx (bK k) _ (Mem.qQ fs af);exact ⟨vs, ty, h1, bV.ba.1 h2, ap⟩
  ·obtain ⟨au, h1⟩ := h.fG (bK k) _ (x.ba bK) (bK j) (Mem.qQ fs af) (ir.2 ⟨x, aa, rfl⟩) (AC.DL ae);obtain ⟨ds, h2, _⟩ := Mem.qR h1;rw [fs] at h2;exact ⟨ds, h2⟩
  ·exact Nf (h.inj (bK k) (bK k') _ _ (Mem.qQ fs af) (Mem.qQ fs eL) e)
  ·obtain ⟨h1, ap, aL⟩ := h.rows (h4 i) r (by unfold aJ.ba; rw [fF]; exact hi);exact ⟨h1.kept ap (fun _ _ => rfl) (dW _) (fun b ab _ => ⟨ab, rfl⟩), ap, fun g aw => ⟨(aL g aw).1, fun k cs af => (aL g aw).2 (bK k) _ (Mem.qQ fs af)⟩⟩
 ·intro h;refine ⟨fun k cs af => ?_, fun k cs x j af aa ae => ?_, fun k k' cs au af eL e => ?_, fun i r hi => ?_, fun i j r q hi ae gu g aw => h.apart (b7 i) (b7 j) r q hi ae (fun e => gu (Y0 e)) g aw⟩
  ·obtain ⟨ds, aH, rfl⟩ := Mem.qR af;obtain ⟨vs, ty, h1, h2, ap⟩ := h.dx (bK k) ds aH;simp only [fs] at h1 ap;exact ⟨vs, ty, h1, bV.ba.2 h2, ap⟩
  ·obtain ⟨ds, aH, rfl⟩ := Mem.qR af;obtain ⟨y, ah, rfl⟩ := ir.1 aa;obtain ⟨i, h1, rfl⟩ := AC.D4 ae;obtain ⟨au, h2⟩ := h.fG (bK k) ds y i aH ah h1;exact ⟨_, Mem.qQ fs h2⟩
  ·obtain ⟨ds, aH, _⟩ := Mem.qR af;obtain ⟨Ve, yG, _⟩ := Mem.qR eL;exact Nf (h.inj (bK k) (bK k') _ _ aH yG (by simp only [fs]; exact e))
  ·obtain ⟨h1, ap, aL⟩ := h.rows (b7 i) r hi;refine ⟨h1.kept ap (fun _ _ => rfl) (dW _) (fun b ab _ => ⟨ab, rfl⟩), ap, fun g aw => ⟨(aL g aw).1, fun k cs af => ?_⟩⟩;obtain ⟨ds, aH, _⟩ := Mem.qR af;have := (aL g aw).2 (bK k) ds aH;simpa only [fs] using this
theorem c6.ba (fs : ∀ j, bK (bK j) = j) (fF : ∀ j, b7 (h4 j) = j) (vb : ∀ j, h4 (b7 j) = j) {f : FuncId} {args : List aj} {m0 : Mem} {R0 : aJ} {Post : aj → Mem → aJ → Prop} (h : c6 P f args m0 R0 Post) :
  c6 P f (args.map (aj.ba bK)) (m0.ba bK) (R0.ba b7) fun r aG az => ∃ cQ m1 bl, Post cQ m1 bl ∧ r = cQ.ba bK ∧ aG = Mem.ba bK m1 ∧ az = aJ.ba b7 bl := by
 refine ⟨fun U ad W vs cK ef dJ => ?_⟩;have YE : jR U (fun k => ad (bK k)) W args vs := ⟨by simpa using dJ.1, fun i x v aa hv => c9.ba.1 (dJ.2 i (x.ba bK) v (by rw [eG, aa]; rfl) hv)⟩;refine (h.call U (fun k => ad (bK k)) W vs ((e1.ba fs fF vb).1 cK) (fun x aa j ae => ?_) YE).mono ?_
 ·obtain ⟨cs, h1⟩ := ef (x.ba bK) (ir.2 ⟨x, aa, rfl⟩) (bK j) (aj.DL ae);obtain ⟨ds, h2, _⟩ := Mem.qR h1;rw [fs] at h2;exact ⟨ds, h2⟩
 ·rintro e bo ⟨v, r, aG, az, bg, cC, rfl, h1, h2, ap, aL, dk, fV, jo, pq, iG⟩;have aI : (fun k => (fun k => bg (bK k)) (bK k)) = bg := by funext k; simp only [fs]
  refine ⟨v, r.ba bK, aG.ba bK, az.ba b7, fun k => bg (bK k), cC, rfl, ⟨r, aG, az, h1, rfl, rfl, rfl⟩, (e1.ba fs fF vb).2 (by rw [aI]; exact h2), c9.ba.2 (by rw [aI]; exact ap), fun j ae => ?_, fun k cs af => ?_, fun i q hi => ?_, fun b ab => ?_, fun b ab => ?_, ⟨iG.os, iG.tape, iG.output, iG.size, fun b ab => iG.block b ⟨ab.1, fun a6 => ab.2 ((ec.ba fs fF).2 a6)⟩⟩⟩
  ·obtain ⟨i, q1, rfl⟩ := aj.D4 ae;obtain ⟨cs, q2⟩ := aL i q1;exact ⟨_, Mem.qQ fs q2⟩
  ·obtain ⟨ds, cY, _⟩ := Mem.qR af;obtain ⟨q1, au, q2⟩ := dk (bK k) ds cY;refine ⟨by show bg (bK k) = ad k; rw [q1, fs], ?_⟩;have := Mem.qQ fs q2;rw [fs] at this;exact ⟨_, this⟩
  ·exact fV (b7 i) q hi
  ·rcases jo b ab with q | q | q
   ·exact .inl q
   ·exact .inr (.inl q)
   ·exact .inr (.inr ((ec.ba fs fF).2 q))
  ·have : ec (fun k => (fun k => bg (bK k)) (bK k)) aG az b := (ec.ba fs fF).1 ab;rw [aI] at this;rcases pq b this with q | q
   ·exact .inl ((ec.ba fs fF).2 q)
   ·exact .inr q
end
def swp (a b j : Nat) : Nat := if j = a then b else if j = b then a else j
theorem mz (a b j : Nat) : swp a b (swp a b j) = j := by
 unfold swp
 by_cases h1 : j = a
 ·subst h1
  by_cases h2 : b = j
  ·simp [h2]
  ·simp [h2]
 ·by_cases h2 : j = b
  ·subst h2; simp [h1]
  ·simp [h1, h2]
theorem Ar (a b : Nat) : swp a b a = b := by simp [swp]
theorem QI (a b : Nat) : swp a b b = a := by unfold swp; by_cases h : b = a <;> simp [h]
theorem P3 {bK : Nat → Nat} {x : AC} (h : x.bb = true) : x.ba bK = x := by cases x <;> first | rfl | cases h
theorem P4 {bK : Nat → Nat} {xs : List AC} (h : xs.all AC.bb = true) : xs.map (AC.ba bK) = xs := by
 rw [ct] at h
 conv => rhs; rw [← List.map_id xs]
 exact oP fun x aa => P3 (h x aa)
theorem ua {bK : Nat → Nat} {x : aj} (h : x.bb = true) : x.ba bK = x := by
 have key : ∀ y : bI, y.bb = true → y.ba bK = y := fun y ah => by
  cases y with
  | one x => show bI.one (x.ba bK) = _; rw [P3 ah]
  | agg xs => show bI.agg (xs.map _) = _; rw [P4 ah]
 cases x with
 | w x => show aj.w (x.ba bK) = _; rw [key x h]
 | cZ xs =>
  show aj.cZ (xs.map _) = _;congr 1;have aF : ∀ x ∈ xs, x.bb = true := ct.1 h
  conv => rhs; rw [← List.map_id xs]
  exact oP fun x aa => key x (aF x aa)
theorem vk {k j : Nat} {cs : List AC} (h : cs.all AC.bb = true) : Mem.ba (swp k j) (cI k cs) = cI j cs := by
 funext i;unfold Mem.ba cI
 by_cases e : i = j
 ·subst e; rw [QI, cr, cr, gL, P4 h]
 ·rw [cl _ _ e, cl _ _ (fun aO => e (by rw [← mz k j i, aO, Ar]))]; rfl
theorem Ac {k j : Nat} {r : bP} : aJ.ba (swp k j) (bJ k r) = bJ j r := by
 funext i;unfold aJ.ba bJ
 by_cases e : i = j
 ·subst e; rw [QI, cr, cr]
 ·rw [cl _ _ e, cl _ _ (fun aO => e (by rw [← mz k j i, aO, Ar]))]; rfl
def qa (P : Program) (f : FuncId) (args : List aj) (cs : List AC) (r : bP) (post : aj → List AC → bP → Prop) : Prop :=
 ∀ k i, c6 P f (.w (.one (.own k 0)) :: args) (cI k cs) (bJ i r) fun v aG az => ∃ au a7, aG = cI k au ∧ az = bJ i a7 ∧ post v au a7
theorem tN {P : Program} {f : FuncId} {args : List aj} {cs : List AC} {r : bP} {post : aj → List AC → bP → Prop} (aK : args.all aj.bb = true) (ak : cs.all AC.bb = true) (hp : ∀ v au a7, post v au a7 → v.bb = true ∧ au.all AC.bb = true)
  (h : c6 P f (.w (.one (.own 1000 0)) :: args) (cI 1000 cs) (bJ 0 r) fun v aG az => ∃ au a7, aG = cI 1000 au ∧ az = bJ 0 a7 ∧ post v au a7) : qa P f args cs r post := by
 intro k i;have h1 := h.ba (bK := swp 1000 k) (b7 := swp 0 i) (h4 := swp 0 i) (mz _ _) (mz _ _) (mz _ _)
 have aI : (aj.w (.one (.own 1000 0)) :: args).map (aj.ba (swp 1000 k)) = .w (.one (.own k 0)) :: args := by
  have aO : args.map (aj.ba (swp 1000 k)) = args := by
   rw [ct] at aK
   conv => rhs; rw [← List.map_id args]
   exact oP fun x aa => ua (aK x aa)
  rw [kU, aO];show aj.w (.one (.own (swp 1000 k 1000) 0)) :: args = _;rw [Ar]
 rw [aI, vk ak, Ac] at h1;refine ⟨fun U ad W vs cK ef dJ => (h1.call U ad W vs cK ef dJ).mono ?_⟩;rintro e bo ⟨v, cQ, aG, az, bg, cC, cY, ⟨dN, m2, eV, ⟨au, a7, rfl, rfl, al⟩, rfl, rfl, rfl⟩, q⟩;obtain ⟨c1, c2⟩ := hp _ _ _ al;rw [vk c2, Ac, ua c1] at q;exact ⟨v, dN, cI k au, bJ i a7, bg, cC, cY, ⟨au, a7, rfl, rfl, al⟩, q⟩
section
variable {P : Program} {R : aJ} {s : aC} {ops : Array Oper} {dr : Option (List Nat)} {ty : Nat} {pos : String} {after : Array Edge} {guard : Option (Nat × Bool)} {K : aJ → aC → Prop} {rest : List Oper}
def kF (dst : Option Nat) (n : Nat) : Bool := match dst with
 | some d => Nat.blt d n
 | none => true
theorem Lf {dst : Option Nat} {n : Nat} (h : kF dst n = true) : ∀ d, dst = some d → d < n := fun d e => by subst e; simpa [kF, Nat.blt_eq] using h
theorem u6 {dst : Option Nat} {f : FuncId} {g : Operand} {aS : Array TypeId} {l : List Operand} {args : List aj} {m0 : Mem} {R0 : aJ} {Post : aj → Mem → aJ → Prop} [E : Enters P f] (hw : want ops ⟨dst, .call ⟨.value g, l.toArray, aS⟩, ty, pos, after, guard⟩ s = some true) (hm : dL dr ⟨dst, .call ⟨.value g, l.toArray, aS⟩, ty, pos, after, guard⟩ = true)
  (aw : s.look g = some (aQ (.func (.func f) #[] #[]))) (aK : l.map s.look = args.map some) (hp : c6 P f args m0 R0 Post) (ay : ∀ x ∈ args, ∀ j, x.owns j → ∃ cs, m0 j = some cs) (pz : ∀ k cs, m0 k = some cs → s.mem k = some cs ∧ (oS dr k = true ∨ ∀ r aG az, Post r aG az → aG k = some cs)) (aq : bM R0 R) (fG : ∀ k cs x j, m0 k = some cs → x ∈ cs → x.owns j → ∃ au, m0 j = some au) (hd : kF dst s.n = true)
  (h : ∀ r aG az, Post r aG az → (∀ k au, aG k = some au → (∃ cs, m0 k = some cs) ∨ (s.mem k = none ∧ k < s.n)) ∧ cL P ops dr K rest (b0 az R) ((s.over aG).put dst r)) : cL P ops dr K (⟨dst, .call ⟨.value g, l.toArray, aS⟩, ty, pos, after, guard⟩ :: rest) R s := by
 refine ⟨true, hw, Lf hd, .inr (.inr (.inr (.inr (.inl ⟨rfl, hm, f, args, m0, R0, Post, ⟨⟨_, g, rfl, rfl, .inl ⟨[], aw, ?_, rfl⟩⟩, E.h⟩, hp, ay, pz, aq, fG, fun r aG az h1 _ _ _ => h r aG az h1⟩))))⟩;simpa using aK
theorem MR (k i : Nat) {dst : Option Nat} {f : FuncId} {g : Operand} {aS : Array TypeId} {l : List Operand} {args : List aj} {cs : List AC} {r : bP} {post : aj → List AC → bP → Prop} [E : Enters P f] (hw : want ops ⟨dst, .call ⟨.value g, l.toArray, aS⟩, ty, pos, after, guard⟩ s = some true) (hm : dL dr ⟨dst, .call ⟨.value g, l.toArray, aS⟩, ty, pos, after, guard⟩ = true)
  (aw : s.look g = some (aQ (.func (.func f) #[] #[]))) (aK : l.map s.look = (aj.w (.one (.own k 0)) :: args).map some) (hp : qa P f args cs r post) (af : s.mem k = some cs) (hj : oS dr k = true ∨ ∀ v au a7, post v au a7 → au = cs) (hi : R i = some r) (ak : cs.all AC.bb = true) (ea : args.all aj.bb = true) (hd : kF dst s.n = true)
  (h : ∀ v au a7, post v au a7 → cL P ops dr K rest (bQ R i a7) ((s.dX k au).put dst v)) : cL P ops dr K (⟨dst, .call ⟨.value g, l.toArray, aS⟩, ty, pos, after, guard⟩ :: rest) R s := by
 refine u6 hw hm aw aK (hp k i) (fun x aa j ae => ?_) (fun k' au aF => ?_) (fun ft a7 aF => ?_) (fun k' au x j aF aa ae => ?_) hd ?_
 ·rcases gM.1 aa with rfl | aa
  ·obtain ⟨y, ah, ae⟩ := ae;simp [bI.cells] at ah;subst ah;cases ae;exact ⟨cs, by unfold cI; exact cr _ _ _⟩
  ·exact absurd ae (aj.dy (ct.1 ea x aa) j)
 ·obtain ⟨rfl, rfl⟩ := hl aF;refine ⟨af, hj.imp id fun hu => ?_⟩;rintro v aG az ⟨au, a7, rfl, rfl, al⟩;rw [hu v au a7 al]; unfold cI; exact cr _ _ _
 ·obtain ⟨rfl, rfl⟩ := fI aF; exact hi
 ·obtain ⟨rfl, rfl⟩ := hl aF;exact absurd ae (AC.dy (ct.1 ak x aa) j)
 ·rintro v aG az ⟨au, a7, rfl, rfl, al⟩;refine ⟨fun k' c aF => ?_, ?_⟩
  ·obtain ⟨rfl, rfl⟩ := hl aF;exact .inl ⟨cs, by unfold cI; exact cr _ _ _⟩
  ·have aI : b0 (bJ i a7) R = bQ R i a7 := vu R i a7
   have aO : s.over (cI k au) = s.dX k au := by
    show ({ s with mem := b0 (bQ cb k au) s.mem } : aC) = { s with mem := bQ s.mem k au };rw [show b0 (bQ cb k au) s.mem = bQ s.mem k au from vu s.mem k au]
   rw [aI, aO];exact h v au a7 al
theorem rT (k i : Nat) {dst : Option Nat} {f : FuncId} {g : Operand} {aS : Array TypeId} {l : List Operand} {args : List aj} {cs : List AC} {r : bP} {post : aj → List AC → bP → Prop} [E : Enters P f] (hw : want ops ⟨dst, .call ⟨.value g, l.toArray, aS⟩, ty, pos, after, guard⟩ s = some true) (hm : dL dr ⟨dst, .call ⟨.value g, l.toArray, aS⟩, ty, pos, after, guard⟩ = true)
  (aw : s.look g = some (aQ (.func (.func f) #[] #[]))) (aK : l.map s.look = (aj.w (.one (.own k 0)) :: args).map some) (hp : qa P f args cs r post) (af : s.mem k = some cs) (hj : oS dr k = true) (hi : R i = some r) (ak : cs.all AC.bb = true) (ea : args.all aj.bb = true) (hd : kF dst s.n = true)
  (h : ∀ v au a7, post v au a7 → cL P ops dr K rest (bQ R i a7) ((s.dX k au).put dst v)) : cL P ops dr K (⟨dst, .call ⟨.value g, l.toArray, aS⟩, ty, pos, after, guard⟩ :: rest) R s :=
 MR k i hw hm aw aK hp af (.inl hj) hi ak ea hd h
theorem Hc (k i : Nat) {dst : Option Nat} {f : FuncId} {g : Operand} {aS : Array TypeId} {l : List Operand} {args : List aj} {cs : List AC} {r : bP} {post : aj → List AC → bP → Prop} [E : Enters P f] (hw : want ops ⟨dst, .call ⟨.value g, l.toArray, aS⟩, ty, pos, after, guard⟩ s = some true) (hm : dL dr ⟨dst, .call ⟨.value g, l.toArray, aS⟩, ty, pos, after, guard⟩ = true)
  (aw : s.look g = some (aQ (.func (.func f) #[] #[]))) (aK : l.map s.look = (aj.w (.one (.own k 0)) :: args).map some) (hp : qa P f args cs r post) (af : s.mem k = some cs) (hj : ∀ v au a7, post v au a7 → au = cs) (hi : R i = some r) (ak : cs.all AC.bb = true) (ea : args.all aj.bb = true) (hd : kF dst s.n = true)
  (h : ∀ v au a7, post v au a7 → cL P ops dr K rest (bQ R i a7) ((s.dX k au).put dst v)) : cL P ops dr K (⟨dst, .call ⟨.value g, l.toArray, aS⟩, ty, pos, after, guard⟩ :: rest) R s :=
 MR k i hw hm aw aK hp af (.inr hj) hi ak ea hd h
theorem c3 {x : Operand} {d k off : Nat} {K : aC → Prop} (hw : want ops ⟨some d, .nilCheck x, ty, pos, after, guard⟩ s = some true) (aa : s.look x = some (.w (.one (.own k off)))) (hd : Nat.blt d s.n = true) (h : bi P ops K rest (s.put (some d) (.w (.one (.own k off))))) : bi P ops K (⟨some d, .nilCheck x, ty, pos, after, guard⟩ :: rest) s := by
 refine fP hw ⟨fun _ _ h => (by cases h), fun y ah => ?_, fun U ad W env he => ?_, fun j ae => ⟨x, by simp [Op.operands], _, aa, ae⟩⟩ hd h
 ·simp [Op.operands] at ah;subst ah;exact ⟨_, aa⟩
 ·have hv : env x = .pointer (some ⟨ad k, off, none⟩) := he x (by simp [Op.operands]) _ aa;exact ⟨_, by simp only [execOp, hv]; rfl, rfl⟩
end
section
variable {P : Program}
theorem ej {n : Nat} {cs : List AC} (h : Nat.ble n 1000 = true) : ∀ k au, cI 1000 cs k = some au → n ≤ k := fun k au af => by
 obtain ⟨rfl, _⟩ := hl af;exact de h
theorem nm {n : Nat} : ∀ k au, cb k = some au → n ≤ k := fun k au af => by cases af
theorem qs {fn : Func} {l : List ResultVar} {xs : List bI} {R : aJ} {s : aC} {cs au : List AC} {r a7 : bP} {post : aj → List AC → bP → Prop} (aq : fn.results = l.toArray) (h : l.map (iw P s) = xs.map some) (af : s.mem 1000 = some au) (hi : R 0 = some a7) (ak : au.all AC.bb = true) (aa : (packed xs).bb = true)
  (hp : post (packed xs) au a7) : tr P fn (cI 1000 cs) (bJ 0 r) (fun v aG az => ∃ au a7, aG = cI 1000 au ∧ az = bJ 0 a7 ∧ post v au a7) R s := by
 refine ⟨xs, packed xs, cI 1000 au, bJ 0 a7, by rw [aq]; exact h, .refl _, ⟨au, a7, rfl, rfl, hp⟩, fun k c h => ?_, fun i q h => ?_, fun j ae => absurd ae (aj.dy aa j), fun k c x j h aa ae => ?_, fun k c h => ?_, fun i q h => ?_⟩
 ·obtain ⟨rfl, rfl⟩ := hl h; exact af
 ·obtain ⟨rfl, rfl⟩ := fI h; exact hi
 ·obtain ⟨rfl, rfl⟩ := hl h; exact absurd ae (AC.dy (ct.1 ak x aa) j)
 ·obtain ⟨rfl, rfl⟩ := hl h; exact ⟨au, by unfold cI; exact cr _ _ _⟩
 ·obtain ⟨rfl, rfl⟩ := fI h; exact ⟨a7, by unfold bJ; exact cr _ _ _⟩
def AC.xm (k : Nat) : AC → Bool
 | .own j _ => Nat.beq j k
 | _ => true
def aj.xm (k : Nat) : aj → Bool
 | .w x => x.cells.all (AC.xm k)
 | .cZ xs => xs.all fun x => x.cells.all (AC.xm k)
theorem aj.abP {k j : Nat} {x : aj} (h : x.xm k = true) (ae : x.owns j) : j = k := by
 have key : ∀ y : bI, y.cells.all (AC.xm k) = true → y.owns j → j = k := by
  rintro y ah ⟨z, aZ, zo⟩;have := ct.1 ah z aZ;cases z with
  | own i o => cases zo; exact gZ this
  | c v => cases zo
  | p R => cases zo
 cases x with
 | w y => exact key y h ae
 | cZ xs =>
  obtain ⟨y, ah, lP⟩ := ae;exact key y (ct.1 h y ah) lP
end
abbrev afu : aj := aQ (.slice none 0 0)
theorem OE (z : Nat) : afu.bp (cM z 0 []) := fun U ad W v h => by
 obtain ⟨rfl, _⟩ := h;exact ⟨⟨none, 0, rfl, dW _, by simp, fun h => absurd h (Nat.lt_irrefl _)⟩, fun b ⟨c, a, q, aE, _⟩ => absurd aE (Nat.lt_irrefl _)⟩
section
variable {P : Program} {R : aJ} {s : aC} {ops : Array Oper} {dr : Option (List Nat)} {ty : Nat} {pos : String} {after : Array Edge} {guard : Option (Nat × Bool)} {K : aJ → aC → Prop} {rest : List Oper}
end
end Go.Proofs.YtpochbhajmbfdaaGreat
namespace Go.Proofs.YtpochbhajmbfdaaGreat
open Go
section
variable {P : Program} {ops : Array Oper} {Q : Exit → Act → World → Prop} {md : Region.Mode} {S : World → Prop} {T : Nat → Bool}
def ng (P : Program) (md : Region.Mode) (ops : Array Oper) (Q : Exit → Act → World → Prop) (S : World → Prop) (T : Nat → Bool) : Nat → Array Bool → Act → World → Prop
 | 0, l, a, w => Region.ready md ops l = [] ∧ Q .normal a w
 | n + 1, l, a, w => (Region.ready md ops l = [] → Q .normal a w) ∧ ∀ i ∈ Region.ready md ops l, wpOp P ops Q i (fun a' w' => (T i = true ∨ S w') ∧ ng P md ops Q S T n (l.setIfInBounds i true) a' w') a w
theorem ng.any {n : Nat} : ∀ {l : Array Bool} {a : Act} {w : World}, ng P md ops Q S T n l a w → wpAny P md ops Q n l a w := by
 induction n with
 | zero => exact fun h => h
 | succ n cw => exact fun h => ⟨h.1, fun i hi => wpOp_mono (fun _ _ k => cw k.2) (h.2 i hi)⟩
theorem OH {l : Array Bool} {i j : Nat} {bk : Oper} {e : Edge} (ie : l.getD i true = false) (ae : j ∈ Region.ready md ops l) (fE : ops[j]? = some bk) (he : e ∈ bk.after) (ab : Region.binds md e = true) : e.on ≠ i := by
 rintro rfl;obtain ⟨_, o, ay, dc⟩ := mem_ready.1 ae;obtain rfl : bk = o := ms (fE.symm.trans ay);have h := dc e he ab;cases hs : l[e.on]? with
 | none => simp [xt, hs] at ie
 | some b => simp [xt, hs] at ie h; rw [ie] at h; cases h
theorem afq {l : Array Bool} {j m : Nat} (h : (l.setIfInBounds j true).getD m true = false) : l.getD m true = false := by
 by_cases e : j = m
 ·subst e;rw [xt, Array.getElem?_setIfInBounds] at h
  by_cases q : j < l.size
  ·simp [q] at h
  ·rw [if_pos rfl, if_neg q] at h; cases h
 ·rw [getD_set_ne true e] at h; exact h
theorem ng.first {i k : Nat} {bn : Oper} {v : Value} {U : Nat → Prop} (hi : ops[i]? = some bn) (MX : ∀ (j : Nat) (o : Oper) cs b, ops[j]? = some o → o.op ≠ .select cs b)
  (iZ : ∀ c a w, Q (.panic c) (a.put bn.dst v) w → Q (.panic c) a w)
  (pv : ∀ j bk, U j → ops[j]? = some bk → j ≠ i → (∀ e ∈ bk.after, Region.binds md e = true → e.on ≠ i) → bn.apart ops bk = true)
  (dZ : ∀ j bk, U j → T j = true → ops[j]? = some bk → ∃ e ∈ bk.after, Region.binds md e = true ∧ (e.on = i ∨ e.on = k))
  (af : ∀ ok, ops[k]? = some ok → ∃ e ∈ ok.after, Region.binds md e = true ∧ e.on = i) (n : Nat) :
  ∀ (l : Array Bool) (a : Act) (w : World), (∀ j, l.getD j true = false → U j) → l.getD k true = false → i ∈ Region.ready md ops l → YieldsIf P ops S bn v a → S w →
   ng P md ops Q S T n (l.setIfInBounds i true) (a.put bn.dst v) w → ng P md ops Q S T (n + 1) l a w := by
 induction n with
 | zero =>
  intro l a w _ _ aq ah hS H;refine ⟨fun h => absurd (h ▸ aq) (qL), fun j ae => ?_⟩
  by_cases e : j = i
  ·exact e ▸ ah.wpOp hi hS ⟨.inr hS, H⟩
  ·exact absurd (H.1 ▸ ready_mono ae e) (qL)
 | succ n cw =>
  intro l a w dz ao aq ah hS H;have ie : l.getD i true = false := (mem_ready.1 aq).1;refine ⟨fun h => absurd (h ▸ aq) (qL), fun j ae => ?_⟩
  by_cases e : j = i
  ·exact e ▸ ah.wpOp hi hS ⟨.inr hS, H⟩
  obtain ⟨_, bk, fE, _⟩ := mem_ready.1 ae;have ju : ∀ e ∈ bk.after, Region.binds md e = true → e.on ≠ i := fun e he ab => OH ie ae fE he ab;have Md : U j := dz j (mem_ready.1 ae).1;refine wpOp_mono (fun a' w' h => ?_) (wpOp_putIf fE (pv j bk Md fE e ju) (fun cs b => MX i bn cs b hi) (fun cs b => MX j bk cs b fE) iZ ah (H.2 j (ready_mono ae e)));obtain ⟨Hn, aD | fk, e9⟩ := h
  ·obtain ⟨x, aa, ab, me | me⟩ := dZ j bk Md aD fE
   ·exact absurd me (ju x aa ab)
   ·exact absurd me (OH ao ae fE aa ab)
  ·have Zj : j ≠ k := fun hc => by
    subst hc;obtain ⟨x, aa, ab, me⟩ := af bk fE;exact ju x aa ab me
   refine ⟨.inr fk, cw _ a' w' (fun m hm => dz m (afq hm)) (by rw [getD_set_ne true Zj]; exact ao) (ready_mono aq (Ne.symm e)) Hn fk ?_⟩;rw [Array.setIfInBounds_comm _ _ e];exact e9
def N1 (md : Region.Mode) (ops : Array Oper) (T : Nat → Bool) (l : Array Bool) (bn : Oper) (i k : Nat) : Bool :=
 (List.range ops.size).all (fun j => l.getD j true || (j == i || Region.waitsFor md ops j i || (match ops[j]? with | some bk => bn.apart ops bk | none => true)) && (!T j || Region.waitsFor md ops j i || Region.waitsFor md ops j k)) && Region.waitsFor md ops k i && !l.getD k true
theorem EF {i j : Nat} {bk : Oper} (ay : ops[j]? = some bk) (h : Region.waitsFor md ops j i = true) : ∃ e ∈ bk.after, Region.binds md e = true ∧ e.on = i := by
 obtain ⟨o, h2, ap⟩ := Region.waitsFor_spec h;obtain rfl : bk = o := ms (ay.symm.trans h2);exact ap
theorem Jf {i : Nat} (k : Nat) {bn : Oper} {v : Value} {n : Nat} {l : Array Bool} {a : Act} {w : World} (hi : ops[i]? = some bn)
  (hs : Region.noSelect ops = true) (aq : (Region.ready md ops l).contains i = true) (hm : N1 md ops T l bn i k = true)
  (iZ : ∀ c a w, Q (.panic c) (a.put bn.dst v) w → Q (.panic c) a w) (ah : YieldsIf P ops S bn v a) (hS : S w)
  (h : ng P md ops Q S T n (l.setIfInBounds i true) (a.put bn.dst v) w) : ng P md ops Q S T (n + 1) l a w := by
 unfold N1 at hm;simp only [dS, si] at hm;obtain ⟨⟨dc, km⟩, ao⟩ := hm
 have at_ : ∀ j bk, l.getD j true = false → ops[j]? = some bk → (j == i || Region.waitsFor md ops j i || bn.apart ops bk) = true ∧ (!T j || Region.waitsFor md ops j i || Region.waitsFor md ops j k) = true := fun j bk hu ay => by
  have bj : j < ops.size := by
   rcases iQ j ops.size with h | h
   ·exact h
   ·rw [vw h] at ay; cases ay
  have := ct.1 dc j (List.mem_range.2 bj);rw [ay, hu, Bool.false_or] at this;simpa only [dS] using this
 refine ng.first (k := k) (U := fun j => l.getD j true = false) hi (Region.noSelect_spec hs) iZ (fun j bk hu ay ne ju => ?_) (fun j bk hu aD ay => ?_) (fun ok ay => EF ay km) n l a w (fun _ h => h) ao (by simpa using aq) ah hS h
 ·have h1 := (at_ j bk hu ay).1;simp only [qN, beq_iff_eq] at h1;rcases h1 with (h1 | h1) | h1
  ·exact absurd h1 ne
  ·obtain ⟨e, he, ab, me⟩ := EF ay h1;exact absurd me (ju e he ab)
  ·exact h1
 ·have h1 := (at_ j bk hu ay).2;simp only [aD, Bool.not_true, Bool.false_or, qN] at h1;rcases h1 with h1 | h1
  ·obtain ⟨e, he, ab, me⟩ := EF ay h1;exact ⟨e, he, ab, .inl me⟩
  ·obtain ⟨e, he, ab, me⟩ := EF ay h1;exact ⟨e, he, ab, .inr me⟩
theorem AB {i : Nat} {o : Oper} {n : Nat} {l : Array Bool} {a : Act} {w : World} (aq : Region.ready md ops l = [i]) (ay : ops[i]? = some o)
  (h : ∀ iA : Act → World → Prop, Shut (∀ a w, (T i = true ∨ S w) → ng P md ops Q S T n (l.setIfInBounds i true) a w → iA a w) → if Region.wanted o (yielded ops a.tmps) = true then Oper.wp P o a w iA Q else iA (a.put o.dst undef) w) :
  ng P md ops Q S T (n + 1) l a w := by
 refine ⟨fun aH => absurd (aq.symm.trans aH) (by simp), fun j ae => ?_⟩;obtain rfl : j = i := by rw [aq] at ae; simpa using ae
 exact wpOp_step ay (fun iA dV => h iA (fun a w x y => dV a w ⟨x, y⟩))
theorem afC {l : Array Bool} {a : Act} {w : World} (aq : Region.ready md ops l = []) (h : Q .normal a w) (n : Nat) : ng P md ops Q S T n l a w := by
 cases n with
 | zero => exact ⟨aq, h⟩
 | succ n => exact ⟨fun _ => h, fun i hi => absurd (aq ▸ hi) (qL)⟩
theorem afE {id : Nat} {a : Act} {w : World} (hm : P.follows .mixedOrders = true)
  (h : ng P .any ops Q S T ops.size (Array.replicate ops.size false) a w.drew) : (Code.region id ops true).wp P Q a w :=
 wp_region_any hm h.any
end
end Go.Proofs.YtpochbhajmbfdaaGreat
namespace Go.Proofs.YtpochbhajmbfdaaGreat
open Go.RowKit
end Go.Proofs.YtpochbhajmbfdaaGreat
namespace Go.Proofs.YtpochbhajmbfdaaGreat
open Go.RowKit
end Go.Proofs.YtpochbhajmbfdaaGreat
namespace Go.Proofs.YtpochbhajmbfdaaGreat
open Go.RowKit
theorem M7 {a b : Int} (h : a < b) : fM a b = -1 := by unfold fM; rw [if_neg (by omega), if_pos h]
theorem YV {a b : Int} (h : b < a) : fM a b = 1 := by unfold fM; rw [if_neg (by omega), if_neg (by omega)]
end Go.Proofs.YtpochbhajmbfdaaGreat
namespace Go.Proofs.YtpochbhajmbfdaaGreat
open Go.RowKit
end Go.Proofs.YtpochbhajmbfdaaGreat
namespace Go.Proofs.YtpochbhajmbfdaaGreat
open Go.RowKit
end Go.Proofs.YtpochbhajmbfdaaGreat
namespace Go.Proofs.YtpochbhajmbfdaaGreat
open Go.RowKit
end Go.Proofs.YtpochbhajmbfdaaGreat
namespace Go.Proofs.YtpochbhajmbfdaaGreat
open Go.RowKit
end Go.Proofs.YtpochbhajmbfdaaGreat
namespace Go.Proofs.YtpochbhajmbfdaaGreat
open Go.RowKit
theorem YU {a b : Int} : (fM a b ≥ 0) ↔ b ≤ a := by
 unfold fM
 repeat' split
 all_goals omega
end Go.Proofs.YtpochbhajmbfdaaGreat
namespace Go.Proofs.YtpochbhajmbfdaaGreat
open Go.RowKit
end Go.Proofs.YtpochbhajmbfdaaGreat
namespace Go.Proofs.YtpochbhajmbfdaaGreat
open Go.RowKit
end Go.Proofs.YtpochbhajmbfdaaGreat
namespace Go.Proofs.YtpochbhajmbfdaaGreat
open Go.RowKit
theorem PF (j : Nat) : (0 : Int) < 2 ^ j ∧ (2 : Int) ^ j < 10000 ^ (j + 1) := by
 induction j with
 | zero => decide
 | succ j cw => rw [Int.pow_succ, Int.pow_succ (10000 : Int) (j + 1)]; omega
end Go.Proofs.YtpochbhajmbfdaaGreat
namespace Go.Proofs
open Go.Shelf
def Tryz.Z4 : Go.Shelf.Ren := ⟨fun | 134 => 305 | 129 => 300 | n => n, fun | 53 => 157 | 3 => 3 | 4 => 4 | 46 => 253 | 5 => 5 | 9 => 9 | n => n, fun | n => n⟩
theorem Tryz.Z3 : Go.Proofs.Lays.n134 ai Tryz.Z4 := {
 mixed := by kernel_rfl
 f129 := Tryz.func300.trans (congrArg some (by kernel_rfl))
 f134 := Tryz.func305.trans (congrArg some (by kernel_rfl))
 t3 := Tryz.underlying3
 a3 := Tryz.isAgg3
 z3 := Tryz.sizeOf3
 v3 := Tryz.zeroValue3
 t4 := Tryz.underlying4
 a4 := Tryz.isAgg4
 z4 := Tryz.sizeOf4
 v4 := Tryz.zeroValue4
 t5 := Tryz.underlying5
 a5 := Tryz.isAgg5
 z5 := Tryz.sizeOf5
 v5 := Tryz.zeroValue5
 t9 := Tryz.underlying9
 a9 := Tryz.isAgg9
 z9 := Tryz.sizeOf9
 v9 := Tryz.zeroValue9
 t46 := Tryz.underlying253
 a46 := Tryz.isAgg253
 z46 := Tryz.sizeOf253
 v46 := Tryz.zeroValue253
 t53 := Tryz.underlying157
 a53 := Tryz.isAgg157
 z53 := Tryz.sizeOf157
 v53 := Tryz.zeroValue157 }
theorem Tryz.bits_LeadingZeros64 (x : Int) (w : World) (aH : 0 ≤ x) (h1 : x ≤ 18446744073709551615) :
  Calls ai 305 #[.int .u64 x] w fun e w' => e = .returned (.int .i64 (64 - (Lib.bitLen x.toNat : Int))) ∧ w' = w := Any.bits_LeadingZeros64 Tryz.Z3 x w aH h1
def Tryz.Z2 : Go.Shelf.Ren := ⟨fun | 129 => 300 | n => n, fun | 53 => 157 | 3 => 3 | 4 => 4 | 46 => 253 | 5 => 5 | 9 => 9 | n => n, fun | n => n⟩
theorem Tryz.Z1 : Go.Proofs.Lays.n129 ai Tryz.Z2 := {
 mixed := by kernel_rfl
 f129 := Tryz.func300.trans (congrArg some (by kernel_rfl))
 t3 := Tryz.underlying3
 a3 := Tryz.isAgg3
 z3 := Tryz.sizeOf3
 v3 := Tryz.zeroValue3
 t4 := Tryz.underlying4
 a4 := Tryz.isAgg4
 z4 := Tryz.sizeOf4
 v4 := Tryz.zeroValue4
 t5 := Tryz.underlying5
 a5 := Tryz.isAgg5
 z5 := Tryz.sizeOf5
 v5 := Tryz.zeroValue5
 t9 := Tryz.underlying9
 a9 := Tryz.isAgg9
 z9 := Tryz.sizeOf9
 v9 := Tryz.zeroValue9
 t46 := Tryz.underlying253
 a46 := Tryz.isAgg253
 z46 := Tryz.sizeOf253
 v46 := Tryz.zeroValue253
 t53 := Tryz.underlying157
 a53 := Tryz.isAgg157
 z53 := Tryz.sizeOf157
 v53 := Tryz.zeroValue157 }
theorem Tryz.bits_Len64 (x : Int) (w : World) (aH : 0 ≤ x) (h1 : x ≤ 18446744073709551615) :
  Calls ai 300 #[.int .u64 x] w fun e w' => e = .returned (.int .i64 (Lib.bitLen x.toNat)) ∧ w' = w := Any.bits_Len64 Tryz.Z1 x w aH h1
def Tryz.Z6 : Go.Shelf.Ren := ⟨fun | 264 => 258 | n => n, fun | 53 => 157 | 46 => 253 | n => n, fun | n => n⟩
theorem Tryz.Z5 : Go.Proofs.Lays.n264 ai Tryz.Z6 := {
 mixed := by kernel_rfl
 f264 := Tryz.func258.trans (congrArg some (by kernel_rfl))
 t46 := Tryz.underlying253
 a46 := Tryz.isAgg253
 z46 := Tryz.sizeOf253
 v46 := Tryz.zeroValue253
 t53 := Tryz.underlying157
 a53 := Tryz.isAgg157
 z53 := Tryz.sizeOf157
 v53 := Tryz.zeroValue157 }
open Go.RowKit Go.Lib in
theorem Tryz.bits_Mul64 (x y : Nat) (aa : x < 18446744073709551616) (ah : y < 18446744073709551616) (w : World) :
  Calls ai 258 #[.int .u64 x, .int .u64 y] w fun e w' => e = .returned (.tuple #[.int .u64 ((x * y / 18446744073709551616 : Nat) : Int), .int .u64 ((x * y % 18446744073709551616 : Nat) : Int)]) ∧ w' = w := Any.bits_Mul64 Tryz.Z5 x y aa ah w
end Go.Proofs
namespace Go.Proofs.YtpochbhajmbfdaaGreat
open Go.RowKit
theorem cJ.conv {H L n m : Int} (h : cJ H L n) (e : n = m) : cJ H L m := e ▸ h
theorem size_pos {h l n : Int} (H : bu h l n) (k : 0 ≤ h) : cJ (IntKind.u64.wrap h) l n.natAbs := by
  obtain ⟨b1, b2, rfl⟩ := H;unfold cJ;rw [IntKind.wrap_u64];omega
theorem aeG {h l n a b : Int} (H : bu h l n) (K : bu a b (wr (0 - n))) (k : h < 0) : cJ (IntKind.u64.wrap a) b n.natAbs := by
  obtain ⟨b1, b2, rfl⟩ := H;obtain ⟨ed, dD, e⟩ := K;unfold wr at e;unfold cJ;rw [IntKind.wrap_u64];omega
theorem An (h1 l1 n : Int) (w : World) (H1 : bu h1 l1 n) :
    Calls ai 279 #[.agg #[.int .i64 h1, .int .u64 l1]] w (aW n.natAbs w) := by
  go_enter Tryz.func279, Tryz.ntmps279
  go_wp2_with (go_at_call 245; refine (zI _ _ _ _ _ _ _ ou H1).mono ?_; rintro e aP ⟨gb, hO, rfl, hs, ab⟩; have yf := Below.cell ab (p := ⟨w.heap.size, 0, none⟩) (by (simp; omega)); have yy := Below.frozen ab (p := ⟨w.heap.size, 0, none⟩) (by (simp; omega)); have yg := Below.cell ab (p := ⟨w.heap.size, 1, none⟩) (by (simp; omega)); have yz := Below.frozen ab (p := ⟨w.heap.size, 1, none⟩) (by (simp; omega)); have BI := Below.cell ab (p := ⟨w.heap.size + 1, 0, none⟩) (by (simp; done)); have B9 := Below.frozen ab (p := ⟨w.heap.size + 1, 0, none⟩) (by (simp; done)); have BJ := Below.cell ab (p := ⟨w.heap.size + 1, 1, none⟩) (by (simp; done)); have Ca := Below.frozen ab (p := ⟨w.heap.size + 1, 1, none⟩) (by (simp; done)); have nD := Below.size ab; (try simp at nD); have xg : ¬ aP.heap.size = w.heap.size := (by omega); have zN : ¬ aP.heap.size = w.heap.size + 1 := (by omega))
  · refine bodyPost_ret (v := .agg #[.int .u64 (IntKind.u64.wrap gb), .int .u64 hO]) (by simp only [results, Tryz.results279]; go_simp) rfl ⟨_, _, rfl, aeG H1 hs ‹_›, ?_⟩
    (repeat first | with_reducible exact Below.refl _ _ | with_reducible refine cT ?_ _ | focus ((with_reducible refine eJ ?_ _ _ _ ?_); rotate_left; omega) | with_reducible refine b4 ?_ ab)
  · refine bodyPost_ret (v := .agg #[.int .u64 (IntKind.u64.wrap h1), .int .u64 l1]) (by simp only [results, Tryz.results279]; go_simp) rfl ⟨_, _, rfl, size_pos H1 ‹_›, ?_⟩
    (repeat first | with_reducible exact Below.refl _ _ | with_reducible refine cT ?_ _)
theorem aeD {h l n : Int} (H : cJ h l n) : bu (wrap64 h) l (wr n) := by
  obtain ⟨b1, b2, rfl⟩ := H;unfold bu wr wrap64;omega
theorem Qx {h l n : Int} (H : cJ h l n) (k : fL h l 0 0 = true ∨ 0 ≤ wrap64 h) : fits n = true ∧ bu (wrap64 h) l n := by
  rw [H.fL zr, cE] at k;obtain ⟨b1, b2, rfl⟩ := H;unfold fits bu wrap64 at *;rw [cE];omega
theorem aes {h l n : Int} (H : cJ h l n) (j : fL h l 0 0 = false) (k : wrap64 h < 0) : fits n = false := by
  rw [H.fL zr, lp] at j;obtain ⟨b1, b2, rfl⟩ := H;unfold fits wrap64 at *;rw [lp];omega
theorem Qw {h l n a b : Int} (H : cJ h l n) (K : bu a b (wr (0 - wr n))) (k : fL h l 0 0 = true ∨ a < 0) : fits (-n) = true ∧ bu a b (-n) := by
  rw [H.fL zr, cE] at k;obtain ⟨b1, b2, rfl⟩ := H;obtain ⟨ed, dD, e⟩ := K;unfold wr at e;unfold fits bu;rw [cE];omega
theorem aep {h l n a b : Int} (H : cJ h l n) (K : bu a b (wr (0 - wr n))) (j : fL h l 0 0 = false) (k : 0 ≤ a) : fits (-n) = false := by
  rw [H.fL zr, lp] at j;obtain ⟨b1, b2, rfl⟩ := H;obtain ⟨ed, dD, e⟩ := K;unfold wr at e;unfold fits;rw [lp];omega
theorem IY (h1 l1 n : Int) (w : World) (H1 : cJ h1 l1 n) :
    Calls ai 280 #[.agg #[.int .u64 h1, .int .u64 l1], .bool false] w (l3 n w) := by
  go_enter Tryz.func280, Tryz.ntmps280
  go_wp2
  · refine bodyPost_ret (v := .tuple #[.agg #[.int .i64 0, .int .u64 0], .bool false]) (by simp only [results, Tryz.results280]; go_simp) rfl (vB (aes H1 ‹_› ‹_›) ?_)
    (repeat first | with_reducible exact Below.refl _ _ | with_reducible refine cT ?_ _)
  · have ah := Qx H1 (.inr ‹_›)
    refine bodyPost_ret (v := .tuple #[.agg #[.int .i64 (wrap64 h1), .int .u64 l1], .bool true]) (by simp only [results, Tryz.results280]; go_simp) rfl (sy ah.1 ah.2 ?_);(repeat first | with_reducible exact Below.refl _ _ | with_reducible refine cT ?_ _)
  · have ah := Qx H1 (.inl ‹_›)
    refine bodyPost_ret (v := .tuple #[.agg #[.int .i64 (wrap64 h1), .int .u64 l1], .bool true]) (by simp only [results, Tryz.results280]; go_simp) rfl (sy ah.1 ah.2 ?_);(repeat first | with_reducible exact Below.refl _ _ | with_reducible refine cT ?_ _)
theorem IX (h1 l1 n : Int) (w : World) (H1 : cJ h1 l1 n) :
    Calls ai 280 #[.agg #[.int .u64 h1, .int .u64 l1], .bool true] w (l3 (-n) w) := by
  go_enter Tryz.func280, Tryz.ntmps280
  go_wp2_with (go_at_call 245; refine (zI _ _ _ _ _ _ _ ou (aeD H1)).mono ?_; rintro e aP ⟨gb, hO, rfl, hs, ab⟩; have yf := Below.cell ab (p := ⟨w.heap.size, 0, none⟩) (by (simp; omega)); have yy := Below.frozen ab (p := ⟨w.heap.size, 0, none⟩) (by (simp; omega)); have yg := Below.cell ab (p := ⟨w.heap.size, 1, none⟩) (by (simp; omega)); have yz := Below.frozen ab (p := ⟨w.heap.size, 1, none⟩) (by (simp; omega)); have BI := Below.cell ab (p := ⟨w.heap.size + 1, 0, none⟩) (by (simp; done)); have B9 := Below.frozen ab (p := ⟨w.heap.size + 1, 0, none⟩) (by (simp; done)); have BJ := Below.cell ab (p := ⟨w.heap.size + 1, 1, none⟩) (by (simp; done)); have Ca := Below.frozen ab (p := ⟨w.heap.size + 1, 1, none⟩) (by (simp; done)); have nD := Below.size ab; (try simp at nD); have xg : ¬ aP.heap.size = w.heap.size := (by omega); have zN : ¬ aP.heap.size = w.heap.size + 1 := (by omega))
  · refine bodyPost_ret (v := .tuple #[.agg #[.int .i64 0, .int .u64 0], .bool false]) (by simp only [results, Tryz.results280]; go_simp) rfl (vB (aep H1 hs ‹_› (by have h := ‹(!decide (gb < 0)) = true›; simpa using h)) ?_)
    (repeat first | with_reducible exact Below.refl _ _ | with_reducible refine cT ?_ _ | focus ((with_reducible refine eJ ?_ _ _ _ ?_); rotate_left; omega) | with_reducible refine b4 ?_ ab)
  · have ah := Qw H1 hs (.inr (by have h := ‹(!decide (gb < 0)) = false›; simpa using h))
    refine bodyPost_ret (v := .tuple #[.agg #[.int .i64 gb, .int .u64 hO], .bool true]) (by simp only [results, Tryz.results280]; go_simp) rfl (sy ah.1 ah.2 ?_);(repeat first | with_reducible exact Below.refl _ _ | with_reducible refine cT ?_ _ | focus ((with_reducible refine eJ ?_ _ _ _ ?_); rotate_left; omega) | with_reducible refine b4 ?_ ab)
  · have ah := Qw H1 hs (.inl ‹_›)
    refine bodyPost_ret (v := .tuple #[.agg #[.int .i64 gb, .int .u64 hO], .bool true]) (by simp only [results, Tryz.results280]; go_simp) rfl (sy ah.1 ah.2 ?_);(repeat first | with_reducible exact Below.refl _ _ | with_reducible refine cT ?_ _ | focus ((with_reducible refine eJ ?_ _ _ _ ?_); rotate_left; omega) | with_reducible refine b4 ?_ ab)
theorem QC (h1 l1 n : Int) (b : Bool) (w : World) (H1 : cJ h1 l1 n) :
    Calls ai 280 #[.agg #[.int .u64 h1, .int .u64 l1], .bool b] w (l3 (if b then -n else n) w) := by
  cases b
  · exact IY h1 l1 n w H1
  · exact IX h1 l1 n w H1
theorem aae (h1 l1 n h2 l2 m : Int) (w : World) (H1 : cJ h1 l1 n) (cd : cJ h2 l2 m) :
    Calls ai 304 #[.agg #[.int .u64 h1, .int .u64 l1], .agg #[.int .u64 h2, .int .u64 l2]] w (gP (.bool (decide (n < m))) w) := by
  go_enter Tryz.func304, Tryz.ntmps304
  go_wp2
  all_goals
    go_ret
    refine ⟨P8 ?_, by (repeat first | with_reducible exact Below.refl _ _ | with_reducible refine cT ?_ _)⟩;obtain ⟨b1, b2, aI⟩ := H1;obtain ⟨ed, dD, aO⟩ := cd;rw [oL];simp only [cE, true_iff, nM, false_iff];omega
theorem ae1 (h1 l1 h2 l2 : Int) (b1 : 0 ≤ h1 ∧ h1 < 18446744073709551616) (b2 : 0 ≤ l1 ∧ l1 < 18446744073709551616)
   (ed : 0 ≤ h2 ∧ h2 < 18446744073709551616) (dD : 0 ≤ l2 ∧ l2 < 18446744073709551616) (hle : h2 * 18446744073709551616 + l2 ≤ h1 * 18446744073709551616 + l1) :
   cJ ((h1 - h2 - -((l1 - l2 - 0) / 18446744073709551616)) % 18446744073709551616) ((l1 - l2 - 0) % 18446744073709551616) ((h1 * 18446744073709551616 + l1) - (h2 * 18446744073709551616 + l2)) := by
  unfold cJ;omega
theorem QH (h1 l1 n h2 l2 m : Int) (w : World) (H1 : cJ h1 l1 n) (cd : cJ h2 l2 m) (hle : m ≤ n) :
    Calls ai 303 #[.agg #[.int .u64 h1, .int .u64 l1], .agg #[.int .u64 h2, .int .u64 l2]] w (aW (n - m) w) := by
  obtain ⟨b1, b2, rfl⟩ := H1;obtain ⟨ed, dD, rfl⟩ := cd;have hv := ae1 h1 l1 h2 l2 b1 b2 ed dD hle;have aI := fun w => Er l1 l2 0 b2.1 b2.2 dD.1 dD.2 (by omega) (by omega) w;have aO := fun w => Er h1 h2 (-((l1 - l2 - 0) / 18446744073709551616)) b1.1 b1.2 ed.1 ed.2 (by omega) (by omega) w;generalize -((l1 - l2 - 0) / 18446744073709551616) = c at *;generalize (l1 - l2 - 0) % 18446744073709551616 = s at *;generalize (h1 - h2 - c) % 18446744073709551616 = s' at *;generalize -((h1 - h2 - c) / 18446744073709551616) = c' at *;generalize (h1 * 18446744073709551616 + l1) - (h2 * 18446744073709551616 + l2) = OG at *;clear b1 b2 ed dD hle
  go_enter Tryz.func303, Tryz.ntmps303
  go_wp2
  refine bodyPost_ret (v := .agg #[.int .u64 s', .int .u64 s]) (by simp only [results, Tryz.results303]; go_simp) rfl ⟨_, _, rfl, hv, ?_⟩;(repeat first | with_reducible exact Below.refl _ _ | with_reducible refine cT ?_ _)
end Go.Proofs.YtpochbhajmbfdaaGreat
namespace Go.Proofs.YtpochbhajmbfdaaGreat
def p8 (n len : Nat) : Prop := (n = 0 ∧ len = 0) ∨ (1 ≤ len ∧ len ≤ 128 ∧ 2 ^ (len - 1) ≤ n ∧ n < 2 ^ len)
theorem qW : (2 : Nat) ^ 64 = 18446744073709551616 := by decide
theorem QR : (2 : Nat) ^ 128 = 340282366920938463463374607431768211456 := by decide
theorem NL (l : Nat) (h : l < 18446744073709551616) : p8 l (Lib.bitLen l) := by
  by_cases e : l = 0
  · subst e
    exact .inl ⟨rfl, Lib.bitLenAux_zero 64⟩
  · obtain ⟨a, b, c⟩ := Lib.bitLenAux_bounds 64 l (by rw [qW]; exact h) e
    have d : Lib.bitLen l ≤ 64 := Lib.bitLen_le l 64 (dW _) (by rw [qW]; exact h);exact .inr ⟨a, by omega, b, c⟩
theorem aaa (h l : Nat) (aH : h ≠ 0) (a6 : h < 18446744073709551616) (ao : l < 18446744073709551616) : p8 (h * 18446744073709551616 + l) (64 + Lib.bitLen h) ∧ Lib.bitLen h ≤ 64 := by
  obtain ⟨a, b, c⟩ := Lib.bitLenAux_bounds 64 h (by rw [qW]; exact a6) aH;have d : Lib.bitLen h ≤ 64 := Lib.bitLen_le h 64 (dW _) (by rw [qW]; exact a6);have e : Lib.bitLenAux 64 h = Lib.bitLen h := rfl;rw [e] at a b c;refine ⟨.inr ⟨by omega, by omega, ?_, ?_⟩, d⟩
  · rw [show 64 + Lib.bitLen h - 1 = (Lib.bitLen h - 1) + 64 by omega, Nat.pow_add, qW]
    generalize 2 ^ (Lib.bitLen h - 1) = P at *;omega
  · rw [show 64 + Lib.bitLen h = Lib.bitLen h + 64 by omega, Nat.pow_add, qW]
    generalize 2 ^ Lib.bitLen h = P at *;omega
theorem aab {n len : Nat} (h : p8 n len) : len ≤ 128 := by rcases h with h | h <;> omega
theorem aac {n len k : Nat} (h : p8 n len) (aH : n ≠ 0) (af : 128 < k + len) : 340282366920938463463374607431768211456 ≤ n * 2 ^ k := by
  rcases h with h | ⟨a, b, c, d⟩
  · omega
  · have h1 := j1 (2 ^ k) c
    rw [← Nat.pow_add] at h1;have h2 : 2 ^ 128 ≤ 2 ^ (len - 1 + k) := Nat.pow_le_pow_right (by decide) (by omega);rw [QR] at h2;omega
theorem aad {n len k : Nat} (h : p8 n len) (af : k + len ≤ 128) : n * 2 ^ k < 340282366920938463463374607431768211456 := by
  rcases h with ⟨rfl, rfl⟩ | ⟨a, b, c, d⟩
  · simp
  · have h1 := Nat.mul_lt_mul_of_pos_right d (Nat.two_pow_pos k)
    rw [← Nat.pow_add] at h1;have h2 : 2 ^ (len + k) ≤ 2 ^ 128 := Nat.pow_le_pow_right (by decide) (by omega);rw [QR] at h2;omega
theorem aew (h l k : Nat) (ao : l < 18446744073709551616) (af : k < 64) (ab : (h * 18446744073709551616 + l) * 2 ^ k < 340282366920938463463374607431768211456) :
    h * 2 ^ k < 18446744073709551616 ∧ l / 2 ^ (64 - k) < 2 ^ k ∧ h * 2 ^ k + l / 2 ^ (64 - k) < 18446744073709551616 ∧
    (h * 18446744073709551616 + l) * 2 ^ k = (h * 2 ^ k + l / 2 ^ (64 - k)) * 18446744073709551616 + (l * 2 ^ k) % 18446744073709551616 := by
  have It : 2 ^ k * 2 ^ (64 - k) = 18446744073709551616 := by rw [← Nat.pow_add, show k + (64 - k) = 64 by omega, qW]
  have adg : 0 < 2 ^ k := Nat.two_pow_pos k;have PY : 0 < 2 ^ (64 - k) := Nat.two_pow_pos _;generalize 2 ^ k = p at *;generalize 2 ^ (64 - k) = q at *;have hd : l / q < p := by rw [Nat.div_lt_iff_lt_mul PY, It]; exact ao
  have aI : l * p = 18446744073709551616 * (l / q) + p * (l % q) := by
    conv => lhs; rw [← Nat.div_add_mod l q]
    rw [j0, ← It, Nat.mul_comm (l % q) p, Nat.mul_assoc p q, Nat.mul_comm (q * (l / q)) p]
  have aO : p * (l % q) < 18446744073709551616 := by rw [← It]; exact Nat.mul_lt_mul_of_pos_left (Nat.mod_lt _ PY) adg
  have cD : (l * p) % 18446744073709551616 = p * (l % q) := by rw [aI, Nat.mul_add_mod, Nat.mod_eq_of_lt aO]
  have eD : (h * 18446744073709551616 + l) * p = h * p * 18446744073709551616 + l * p := by rw [j0, Nat.mul_right_comm]
  rw [eD] at ab;refine ⟨by omega, hd, by omega, ?_⟩;rw [eD, cD, j0];omega
theorem Ig (h l k : Nat) (h1 : h * 2 ^ k < 18446744073709551616) (h2 : l < 2 ^ k) (ap : h * 2 ^ k + l < 18446744073709551616) :
    bits .or .u64 ((h * 2 ^ k : Nat) : Int) (l : Int) = ((h * 2 ^ k + l : Nat) : Int) := by
  rw [bits_or_u64_nat _ _ h1 (by omega), Nat.mul_comm h, ← Nat.two_pow_add_eq_or_of_lt h2]
theorem Qz (h l k : Int) (uH : 0 ≤ h) (sU : 0 ≤ l ∧ l < 18446744073709551616) (Ky : 0 ≤ k ∧ k < 64) (ab : (h * 18446744073709551616 + l) * 2 ^ k.toNat < 340282366920938463463374607431768211456) :
    ∃ H, bits .or .u64 (IntKind.u64.wrap (h * 2 ^ k.toNat)) (l / 2 ^ (64 - k).toNat) = H ∧ (0 ≤ H ∧ H < 18446744073709551616) ∧ (h * 18446744073709551616 + l) * 2 ^ k.toNat = H * 18446744073709551616 + IntKind.u64.wrap (l * 2 ^ k.toNat) := by
  obtain ⟨a, rfl⟩ := mr uH;obtain ⟨b, rfl⟩ := mr sU.1;obtain ⟨c, rfl⟩ := mr Ky.1;have Fu : c < 64 := by omega
  rw [show (64 - (c : Int)).toNat = 64 - c by omega, ks] at *
  have df : (a * 18446744073709551616 + b) * 2 ^ c < 340282366920938463463374607431768211456 := by
    have e : ((a : Int) * 18446744073709551616 + b) * 2 ^ c = (((a * 18446744073709551616 + b) * 2 ^ c : Nat) : Int) := by simp
    rw [e] at ab;omega
  obtain ⟨s1, s2, bT, bY⟩ := aew a b c (by omega) Fu df
  have aP : IntKind.u64.wrap ((a : Int) * 2 ^ c) = ((a * 2 ^ c : Nat) : Int) := by
    rw [show (a : Int) * 2 ^ c = ((a * 2 ^ c : Nat) : Int) by simp, IntKind.wrap_u64];omega
  have w2 : (b : Int) / 2 ^ (64 - c) = ((b / 2 ^ (64 - c) : Nat) : Int) := by simp
  have w3 : IntKind.u64.wrap ((b : Int) * 2 ^ c) = ((b * 2 ^ c % 18446744073709551616 : Nat) : Int) := by
    rw [show (b : Int) * 2 ^ c = ((b * 2 ^ c : Nat) : Int) by simp, IntKind.wrap_u64];omega
  refine ⟨_, rfl, ?_, ?_⟩
  · rw [aP, w2, Ig _ _ _ s1 s2 bT]
    omega
  · rw [aP, w2, Ig _ _ _ s1 s2 bT, w3]
    rw [show ((a : Int) * 18446744073709551616 + b) * 2 ^ c = (((a * 18446744073709551616 + b) * 2 ^ c : Nat) : Int) by simp, bY];omega
theorem aev (h l k : Int) (uH : 0 ≤ h) (sU : 0 ≤ l) (Ky : 64 ≤ k) (ab : (h * 18446744073709551616 + l) * 2 ^ k.toNat < 340282366920938463463374607431768211456) :
    (0 ≤ IntKind.u64.wrap (l * 2 ^ (k - 64).toNat) ∧ IntKind.u64.wrap (l * 2 ^ (k - 64).toNat) < 18446744073709551616) ∧ (h * 18446744073709551616 + l) * 2 ^ k.toNat = IntKind.u64.wrap (l * 2 ^ (k - 64).toNat) * 18446744073709551616 + 0 := by
  obtain ⟨a, rfl⟩ := mr uH;obtain ⟨b, rfl⟩ := mr sU;obtain ⟨c, rfl⟩ : ∃ c : Nat, k = c + 64 := ⟨(k - 64).toNat, by omega⟩;rw [show ((c : Int) + 64 - 64).toNat = c by omega, show ((c : Int) + 64).toNat = c + 64 by omega] at *
  have e : ((a : Int) * 18446744073709551616 + b) * 2 ^ (c + 64) = (((a * 18446744073709551616 + b) * 2 ^ c * 18446744073709551616 : Nat) : Int) := by
    rw [Int.pow_add, ← kV];simp
  rw [e] at ab ⊢;rw [show (b : Int) * 2 ^ c = ((b * 2 ^ c : Nat) : Int) by simp, IntKind.wrap_u64];have hp : 0 < 2 ^ c := Nat.two_pow_pos c
  have aK : a = 0 := by
    rcases vx a with h | h
    · exact h
    · exfalso
      have h1 : 18446744073709551616 * 1 ≤ (a * 18446744073709551616 + b) * 2 ^ c := Nat.mul_le_mul (by omega) hp;omega
  subst aK;rw [Nat.zero_mul, jH] at *;omega
end Go.Proofs.YtpochbhajmbfdaaGreat
namespace Go.Proofs.YtpochbhajmbfdaaGreat
open Go.RowKit
def Sn (n : Int) (w : World) (e : Ending) (w' : World) : Prop := ∃ H L, e = .returned (.tuple #[.int .u64 H, .int .u64 L]) ∧ cJ H L n ∧ w = w'
theorem aaN {x y : Nat} (aa : x < 18446744073709551616) (ah : y < 18446744073709551616) : x * y < 18446744073709551616 * 18446744073709551616 := Nat.mul_lt_mul'' aa ah
theorem xe (x y : Int) (w : World) (aa : 0 ≤ x ∧ x < 18446744073709551616) (ah : 0 ≤ y ∧ y < 18446744073709551616) :
    Calls ai 258 #[.int .u64 x, .int .u64 y] w (Sn (x * y) w) := by
  obtain ⟨X, rfl⟩ := mr aa.1;obtain ⟨Y, rfl⟩ := mr ah.1;refine (Tryz.bits_Mul64 X Y (by omega) (by omega) w).mono ?_;rintro e w' ⟨rfl, rfl⟩;have ao := aaN (x := X) (y := Y) (by omega) (by omega);refine ⟨_, _, rfl, ?_, rfl⟩;rw [show (X : Int) * (Y : Int) = ((X * Y : Nat) : Int) from (Int.natCast_mul X Y).symm];generalize X * Y = p at *;unfold cJ;omega
def kI (n : Int) : Bool := decide (n < 340282366920938463463374607431768211456)
def vV (n : Int) (w : World) (e : Ending) (w' : World) : Prop := ∃ H L, e = .returned (.tuple #[.agg #[.int .u64 H, .int .u64 L], .bool (kI n)]) ∧ cJ H L (if kI n then n else 0) ∧ Below w.heap.size w w'
theorem Qm {n H L : Int} {w w' : World} (h : kI n = true) (k : cJ H L n) (b : Below w.heap.size w w') : vV n w (.returned (.tuple #[.agg #[.int .u64 H, .int .u64 L], .bool true])) w' := ⟨H, L, by rw [h], by rw [h]; exact k, b⟩
theorem Ae {n : Int} {w w' : World} (h : kI n = false) (b : Below w.heap.size w w') : vV n w (.returned (.tuple #[.agg #[.int .u64 0, .int .u64 0], .bool false])) w' := ⟨0, 0, by rw [h], by rw [h]; exact zr, b⟩
theorem TU {h1 l1 n h2 l2 m : Int} (H1 : cJ h1 l1 n) (cd : cJ h2 l2 m) (bB : h1 ≠ 0) (cf : h2 ≠ 0) : kI (n * m) = false := by
  obtain ⟨b1, b2, aI⟩ := H1;obtain ⟨ed, dD, aO⟩ := cd;have aE : 18446744073709551616 ≤ n := by omega
  have hm : 18446744073709551616 ≤ m := by omega
  have h := sq aE hm (by omega) (by omega);unfold kI;rw [lp];omega
theorem aaO (h1 l1 n h2 l2 m : Int) (w : World) (H1 : cJ h1 l1 n) (cd : cJ h2 l2 m) (bB : h1 ≠ 0) (cf : h2 ≠ 0) :
    Calls ai 278 #[.agg #[.int .u64 h1, .int .u64 l1], .agg #[.int .u64 h2, .int .u64 l2]] w (vV (n * m) w) := by
  have aE := Lib.hid (TU H1 cd bB cf);have b1 : (h1 != 0) = true := by simpa using bB
  have b2 : (h2 != 0) = true := by simpa using cf
  clear bB cf
  go_enter Tryz.func278, Tryz.ntmps278
  go_wp2
  refine bodyPost_ret (v := .tuple #[.agg #[.int .u64 0, .int .u64 0], .bool false]) (by simp only [results, Tryz.results278]; go_simp) rfl (Ae aE.out ?_);(repeat first | with_reducible exact Below.refl _ _ | with_reducible refine cT ?_ _)
theorem Nj {a b : Int} (h : cJ a b 0) : a = 0 ∧ b = 0 := by
  obtain ⟨b1, b2, e⟩ := h;omega
theorem Om {o u q hi lo p N : Int} (A : cJ o u q) (C : cJ hi lo p) (e : N = q * 18446744073709551616 + p) :
    (¬ o = 0 → kI N = false) ∧ (o = 0 → ((hi + u) / 18446744073709551616 != 0) = true → kI N = false) ∧
    (o = 0 → ((hi + u) / 18446744073709551616 != 0) = false → kI N = true ∧ cJ ((hi + u) % 18446744073709551616) lo N) := by
  obtain ⟨a1, a2, rfl⟩ := A;obtain ⟨b1, b2, rfl⟩ := C;unfold kI cJ;simp only [bne_iff_ne, bne_eq_false_iff_eq, cE, lp];omega
theorem O9 (x : Int) (h : 0 ≤ x ∧ x < 18446744073709551616) : bits .or .u64 0 x = x ∧ bits .or .u64 x 0 = x := by
  obtain ⟨X, rfl⟩ := mr h.1;have h1 := bits_or_u64_nat 0 X (by omega) (by omega);have h2 := bits_or_u64_nat X 0 (by omega) (by omega);rw [Nat.zero_or] at h1;rw [Nat.or_zero] at h2;exact ⟨h1, h2⟩
theorem aaP (l1 n h2 l2 m : Int) (w : World) (H1 : cJ 0 l1 n) (cd : cJ h2 l2 m) :
    Calls ai 278 #[.agg #[.int .u64 0, .int .u64 l1], .agg #[.int .u64 h2, .int .u64 l2]] w (vV (n * m) w) := by
  have jk := H1.1; have z2 := H1.2.1; have z3 := cd.1; have z4 := cd.2.1
  go_enter Tryz.func278, Tryz.ntmps278
  go_wp2_with fail
  refine (xe _ _ _ jk z4).mono ?_;rintro e aP ⟨abx, Ew, rfl, dU, rfl⟩;rw [Int.zero_mul] at dU;obtain ⟨rfl, rfl⟩ := Nj dU;clear dU
  go_wp2_with fail
  refine (xe _ _ _ z2 z3).mono ?_;rintro e aP ⟨aby, Ex, rfl, fj, rfl⟩
  go_wp2_with fail
  refine (xe _ _ _ z2 z4).mono ?_;rintro e aP ⟨hi, lo, rfl, hC, rfl⟩;have o1 := (O9 Ex fj.2.1).1;have aI := fun w => Bp hi Ex 0 hC.1.1 fj.2.1.1 (by omega) (by omega) w;rw [Int.add_zero] at aI
  have rQ := Om (N := n * m) fj hC (by
    rw [H1.2.2, cd.2.2, Int.zero_mul, Int.zero_add, Int.mul_add, ← kV])
  obtain ⟨q1, q2, cg⟩ := rQ;have ka := Lib.hid q1; have mE := Lib.hid q2; have EY := Lib.hid cg;clear q1 q2 cg jk z2 z3 z4
  go_wp2
  · refine bodyPost_ret (v := .tuple #[.agg #[.int .u64 0, .int .u64 0], .bool false]) (by simp only [results, Tryz.results278]; go_simp) rfl (Ae (ka.out ‹_›) ?_)
    (repeat first | with_reducible exact Below.refl _ _ | with_reducible refine cT ?_ _)
  · refine bodyPost_ret (v := .tuple #[.agg #[.int .u64 0, .int .u64 0], .bool false]) (by simp only [results, Tryz.results278]; go_simp) rfl (Ae (mE.out ‹_› ‹_›) ?_)
    (repeat first | with_reducible exact Below.refl _ _ | with_reducible refine cT ?_ _)
  · have ah := EY.out ‹_› ‹_›
    refine bodyPost_ret (v := .tuple #[.agg #[.int .u64 ((hi + Ex) % 18446744073709551616), .int .u64 lo], .bool true]) (by simp only [results, Tryz.results278]; go_simp) rfl (Qm ah.1 ah.2 ?_);(repeat first | with_reducible exact Below.refl _ _ | with_reducible refine cT ?_ _)
theorem aaQ (h1 l1 n l2 m : Int) (w : World) (H1 : cJ h1 l1 n) (cd : cJ 0 l2 m) (k : h1 ≠ 0) :
    Calls ai 278 #[.agg #[.int .u64 h1, .int .u64 l1], .agg #[.int .u64 0, .int .u64 l2]] w (vV (n * m) w) := by
  have jk := H1.1; have z2 := H1.2.1; have z3 := cd.1; have z4 := cd.2.1;have ZL : (h1 != 0) = true := by simpa using k
  clear k
  go_enter Tryz.func278, Tryz.ntmps278
  go_wp2_with fail
  refine (xe _ _ _ jk z4).mono ?_;rintro e aP ⟨abx, Ew, rfl, dU, rfl⟩
  go_wp2_with fail
  refine (xe _ _ _ z2 z3).mono ?_;rintro e aP ⟨aby, Ex, rfl, fj, rfl⟩;rw [Int.mul_zero] at fj;obtain ⟨rfl, rfl⟩ := Nj fj;clear fj
  go_wp2_with fail
  refine (xe _ _ _ z2 z4).mono ?_;rintro e aP ⟨hi, lo, rfl, hC, rfl⟩;have o1 := (O9 Ew dU.2.1).2;have aI := fun w => Bp hi Ew 0 hC.1.1 dU.2.1.1 (by omega) (by omega) w;rw [Int.add_zero] at aI
  have rQ := Om (N := n * m) dU hC (by
    rw [H1.2.2, cd.2.2, Int.zero_mul, Int.zero_add, Int.add_mul, Int.mul_right_comm])
  obtain ⟨q1, q2, cg⟩ := rQ;have ka := Lib.hid q1; have mE := Lib.hid q2; have EY := Lib.hid cg;clear q1 q2 cg jk z2 z3 z4
  go_wp2
  · refine bodyPost_ret (v := .tuple #[.agg #[.int .u64 0, .int .u64 0], .bool false]) (by simp only [results, Tryz.results278]; go_simp) rfl (Ae (ka.out ‹_›) ?_)
    (repeat first | with_reducible exact Below.refl _ _ | with_reducible refine cT ?_ _)
  · refine bodyPost_ret (v := .tuple #[.agg #[.int .u64 0, .int .u64 0], .bool false]) (by simp only [results, Tryz.results278]; go_simp) rfl (Ae (mE.out ‹_› ‹_›) ?_)
    (repeat first | with_reducible exact Below.refl _ _ | with_reducible refine cT ?_ _)
  · have ah := EY.out ‹_› ‹_›
    refine bodyPost_ret (v := .tuple #[.agg #[.int .u64 ((hi + Ew) % 18446744073709551616), .int .u64 lo], .bool true]) (by simp only [results, Tryz.results278]; go_simp) rfl (Qm ah.1 ah.2 ?_);(repeat first | with_reducible exact Below.refl _ _ | with_reducible refine cT ?_ _)
theorem On (h1 l1 n h2 l2 m : Int) (w : World) (H1 : cJ h1 l1 n) (cd : cJ h2 l2 m) :
    Calls ai 278 #[.agg #[.int .u64 h1, .int .u64 l1], .agg #[.int .u64 h2, .int .u64 l2]] w (vV (n * m) w) := by
  by_cases bB : h1 = 0
  · subst bB; exact aaP l1 n h2 l2 m w H1 cd
  · by_cases cf : h2 = 0
    · subst cf; exact aaQ h1 l1 n l2 m w H1 cd bB
    · exact aaO h1 l1 n h2 l2 m w H1 cd bB cf
def Sl (n : Int) (w : World) (e : Ending) (w' : World) : Prop := ∃ k : Nat, e = .returned (.int .i64 k) ∧ p8 n.toNat k ∧ Below w.heap.size w w'
theorem TS (h : Int) (b : 0 ≤ h ∧ h < 18446744073709551616) : Lib.bitLen h.toNat ≤ 64 := Lib.bitLen_le _ 64 (dW _) (by rw [qW]; omega)
theorem Z9 (h1 l1 n : Int) (w : World) (H1 : cJ h1 l1 n) :
    Calls ai 291 #[.agg #[.int .u64 h1, .int .u64 l1]] w (Sl n w) := by
  obtain ⟨b1, b2, e⟩ := H1;have q1 := TS h1 b1
  by_cases k : h1 = 0
  · subst k
    have ao : Hid (p8 n.toNat (Lib.bitLen l1.toNat)) := by
      rw [e, show (0 * 18446744073709551616 + l1).toNat = l1.toNat by omega];exact NL _ (by omega)
    clear e
    go_enter Tryz.func291, Tryz.ntmps291
    go_wp2_with (go_at_call 300; refine (Tryz.bits_Len64 _ _ (by omega) (by omega)).mono ?_; rintro e w' ⟨rfl, rfl⟩)
    go_ret
    exact ⟨_, rfl, ao.out, by (repeat first | with_reducible exact Below.refl _ _ | with_reducible refine cT ?_ _)⟩
  · have ao : Hid (p8 n.toNat (64 + Lib.bitLen h1.toNat)) := by
      rw [e, show (h1 * 18446744073709551616 + l1).toNat = h1.toNat * 18446744073709551616 + l1.toNat by omega];exact (aaa _ _ (by omega) (by omega) (by omega)).1
    have ZL : (h1 != 0) = true := by simpa using k
    clear e k
    go_enter Tryz.func291, Tryz.ntmps291
    go_wp2_with (go_at_call 300; refine (Tryz.bits_Len64 _ _ (by omega) (by omega)).mono ?_; rintro e w' ⟨rfl, rfl⟩)
    go_ret
    exact ⟨_, by simp, ao.out, by (repeat first | with_reducible exact Below.refl _ _ | with_reducible refine cT ?_ _)⟩
theorem aet (h1 l1 n k : Int) (w : World) (H1 : cJ h1 l1 n) (gV : 64 ≤ k) (bB : k < 128) (ab : n * 2 ^ k.toNat < 340282366920938463463374607431768211456) :
    Calls ai 292 #[.agg #[.int .u64 h1, .int .u64 l1], .int .u64 k] w (aW (n * 2 ^ k.toNat) w) := by
  obtain ⟨b1, b2, e⟩ := H1;rw [e] at ab ⊢;have rf := Lib.hid (aev h1 l1 k b1.1 b2.1 gV ab);clear e ab b1 b2
  go_enter Tryz.func292, Tryz.ntmps292
  go_wp2
  refine bodyPost_ret (v := .agg #[.int .u64 (IntKind.u64.wrap (l1 * 2 ^ (k - 64).toNat)), .int .u64 0]) (by simp only [results, Tryz.results292]; go_simp) rfl ⟨_, _, rfl, ⟨rf.out.1, by omega, rf.out.2⟩, ?_⟩;(repeat first | with_reducible exact Below.refl _ _ | with_reducible refine cT ?_ _)
theorem aeu (h1 l1 n k : Int) (w : World) (H1 : cJ h1 l1 n) (gV : 0 ≤ k) (bB : k < 64) (ab : n * 2 ^ k.toNat < 340282366920938463463374607431768211456) :
    Calls ai 292 #[.agg #[.int .u64 h1, .int .u64 l1], .int .u64 k] w (aW (n * 2 ^ k.toNat) w) := by
  obtain ⟨b1, b2, e⟩ := H1;rw [e] at ab ⊢;obtain ⟨H, iL, mO, M2⟩ := Qz h1 l1 k b1.1 b2 ⟨gV, bB⟩ ab;have RX := Lib.hid iL;have RY := Lib.hid M2;clear e ab b1 b2 iL M2
  go_enter Tryz.func292, Tryz.ntmps292
  go_wp2
  refine bodyPost_ret (v := .agg #[.int .u64 (bits BinOp.or IntKind.u64 (IntKind.u64.wrap (h1 * 2 ^ k.toNat)) (l1 / 2 ^ (64 - k).toNat)), .int .u64 (IntKind.u64.wrap (l1 * 2 ^ k.toNat))]) (by simp only [results, Tryz.results292]; go_simp) rfl ⟨_, _, rfl, ?_, ?_⟩
  · rw [RX.out]
    exact ⟨mO, vG _, RY.out⟩
  · (repeat first | with_reducible exact Below.refl _ _ | with_reducible refine cT ?_ _)
theorem Qy (h1 l1 n k : Int) (w : World) (H1 : cJ h1 l1 n) (gV : 0 ≤ k) (bB : k < 128) (ab : n * 2 ^ k.toNat < 340282366920938463463374607431768211456) :
    Calls ai 292 #[.agg #[.int .u64 h1, .int .u64 l1], .int .u64 k] w (aW (n * 2 ^ k.toNat) w) := by
  by_cases h : k < 64
  · exact aeu h1 l1 n k w H1 gV h ab
  · exact aet h1 l1 n k w H1 (by omega) bB ab
end Go.Proofs.YtpochbhajmbfdaaGreat
namespace Go.Proofs.YtpochbhajmbfdaaGreat
open Go.RowKit
theorem sign_mul {h1 l1 n h2 l2 m : Int} (H1 : bu h1 l1 n) (cd : bu h2 l2 m) : (if (!decide (h1 < 0) == decide (h2 < 0)) = true then -((n.natAbs : Int) * (m.natAbs : Int)) else (n.natAbs : Int) * (m.natAbs : Int)) = n * m := by
  have bB := H1.neg; have cf := cd.neg;rcases pN n 0 with a | a <;> rcases pN m 0 with b | b
  · obtain ⟨x, rfl⟩ : ∃ x : Nat, n = -(x : Int) := ⟨n.natAbs, by omega⟩
    obtain ⟨y, rfl⟩ : ∃ y : Nat, m = -(y : Int) := ⟨m.natAbs, by omega⟩;simp [bB.2 a, cf.2 b, Int.neg_mul, Int.mul_neg]
  · obtain ⟨x, rfl⟩ : ∃ x : Nat, n = -(x : Int) := ⟨n.natAbs, by omega⟩
    obtain ⟨y, rfl⟩ : ∃ y : Nat, m = (y : Int) := ⟨m.natAbs, by omega⟩;have : ¬ h2 < 0 := by omega
    simp [bB.2 a, this, Int.neg_mul]
  · obtain ⟨x, rfl⟩ : ∃ x : Nat, n = (x : Int) := ⟨n.natAbs, by omega⟩
    obtain ⟨y, rfl⟩ : ∃ y : Nat, m = -(y : Int) := ⟨m.natAbs, by omega⟩;have : ¬ h1 < 0 := by omega
    simp [cf.2 b, this, Int.mul_neg]
  · obtain ⟨x, rfl⟩ : ∃ x : Nat, n = (x : Int) := ⟨n.natAbs, by omega⟩
    obtain ⟨y, rfl⟩ : ∃ y : Nat, m = (y : Int) := ⟨m.natAbs, by omega⟩;have t1 : ¬ h1 < 0 := by omega
    have t2 : ¬ h2 < 0 := by omega
    simp [t1, t2]
theorem aeB {h1 l1 n h2 l2 m : Int} (H1 : bu h1 l1 n) (cd : bu h2 l2 m) (h : kI (n.natAbs * m.natAbs) = false) : fits (n * m) = false := by
  have e : (n.natAbs : Int) * m.natAbs = ((n * m).natAbs : Int) := by rw [Int.natAbs_mul, Int.natCast_mul]
  rw [e] at h;unfold kI at h;unfold fits;rw [lp] at *;omega
theorem aeF {h1 l1 n h2 l2 m ph pl P : Int} (w : World) (H1 : bu h1 l1 n) (cd : bu h2 l2 m) (e : Hid (P = n.natAbs * m.natAbs)) (hp : cJ ph pl P) :
    Calls ai 280 #[.agg #[.int .u64 ph, .int .u64 pl], .bool (!decide (h1 < 0) == decide (h2 < 0))] w (l3 (n * m) w) := by
  rw [← sign_mul H1 cd, ← e.out];exact QC ph pl P _ w hp
def Sc (w : World) (N : Int) (a b c d : Value) (pU vE : Value) (fo : World) : Prop :=
  ∃ (g : Nat) (ph pl : Int), pU = .pointer (some ⟨g, 0, none⟩) ∧ vE = .bool (kI N) ∧ w.heap.size + 3 ≤ g ∧ cJ ph pl (if kI N then N else 0) ∧
    ag fo g (.int .u64 ph) (.int .u64 pl) ∧ ag fo w.heap.size a b ∧ ag fo (w.heap.size + 1) c d ∧ ag fo (w.heap.size + 1 + 1) (.int .i64 0) (.int .u64 0) ∧ g < fo.heap.size ∧ Below w.heap.size w fo
theorem Sd (h1 l1 n h2 l2 m : Int) (w : World) (H1 : bu h1 l1 n) (cd : bu h2 l2 m) :
    Calls ai 246 #[.agg #[.int .i64 h1, .int .u64 l1], .agg #[.int .i64 h2, .int .u64 l2]] w (l3 (n * m) w) := by
  have abt : ¬ w.heap.size + 1 + 1 + 1 = w.heap.size := by omega
  have abr : ¬ w.heap.size + 1 + 1 = w.heap.size := by omega
  go_enter Tryz.func246, Tryz.ntmps246
  go_upto_region 1 with fail
  go_cut [6, 7] (fun pU vE fo => Sc w (n.natAbs * m.natAbs) (.int .i64 h1) (.int .u64 l1) (.int .i64 h2) (.int .u64 l2) pU vE fo)
  case first =>
    have bt : ag (((w.alloc (.cells #[.int .i64 h1, .int .u64 l1] 159)).alloc (.cells #[.int .i64 h2, .int .u64 l2] 159)).alloc (.cells #[.int .i64 0, .int .u64 0] 159)) w.heap.size (.int .i64 h1) (.int .u64 l1) := by (repeat first | focus ((with_reducible refine ag.new ?_); simp; done) | with_reducible refine ag.alloc ?_ _)
    go_region_held3 (fun w' => (w'.cell? ⟨w.heap.size, 0, none⟩ = some (.int .i64 h1) ∧ w'.cell? ⟨w.heap.size, 1, none⟩ = some (.int .u64 l1)) ∧ (w'.cell? ⟨w.heap.size + 1, 0, none⟩ = some (.int .i64 h2) ∧ w'.cell? ⟨w.heap.size + 1, 1, none⟩ = some (.int .u64 l2))) (go_keep)
      (first
        | (go_at_call 279; ((with_reducible refine (An h1 l1 n _ H1).mono ?_); rintro e aP ⟨Am, aeH, rfl, ol, bD⟩; have ga : ag aP (w.heap.size) (.int .i64 h1) (.int .u64 l1) := (by (repeat first | with_reducible assumption | with_reducible refine ag.alloc ?_ _ | with_reducible refine ag.drew ?_ | with_reducible refine ag.call ?_ bD)); obtain ⟨⟨lG, lH⟩, lJ, lK⟩ := id ga; have jl : ag aP (w.heap.size + 1) (.int .i64 h2) (.int .u64 l2) := (by (repeat first | focus ((with_reducible refine ag.new ?_); simp; done) | with_reducible refine ag.alloc ?_ _ | with_reducible refine ag.drew ?_ | with_reducible refine ag.call ?_ bD)); obtain ⟨⟨o9, pe⟩, pk, po⟩ := id jl; have oW : ag aP (w.heap.size + 1 + 1) (.int .i64 0) (.int .u64 0) := (by (repeat first | focus ((with_reducible refine ag.new ?_); simp; done) | with_reducible refine ag.alloc ?_ _ | with_reducible refine ag.drew ?_ | with_reducible refine ag.call ?_ bD)); obtain ⟨⟨wk, wv⟩, wB, wG⟩ := id oW; (try ((refine k8 (p := ag aP (w.heap.size + 1 + 1 + 1) (.int .u64 0) (.int .u64 0)) ?_ ?_); (repeat first | focus ((with_reducible refine ag.new ?_); simp; done) | with_reducible refine ag.alloc ?_ _ | with_reducible refine ag.drew ?_ | with_reducible refine ag.call ?_ bD); intro AK; obtain ⟨⟨afX, agf⟩, agG, agU⟩ := id AK; have ahO := ag.lt AK; have aid := iu (ag.lt AK); have ah4 := iv (ag.lt AK))); have mh := Below.size bD; (try simp at mh); have tJ : ¬ aP.heap.size = w.heap.size := (by omega); have vm : ¬ aP.heap.size = w.heap.size + 1 := (by omega); have zK : ¬ aP.heap.size = w.heap.size + 1 + 1 := (by omega); have s8 : ¬ w.heap.size = aP.heap.size := (by omega); have uM : ¬ w.heap.size + 1 = aP.heap.size := (by omega); have yu : ¬ w.heap.size + 1 + 1 = aP.heap.size := (by omega); have tG : w.heap.size < aP.heap.size := (by omega); have vi : w.heap.size + 1 < aP.heap.size := (by omega); have zE : w.heap.size + 1 + 1 < aP.heap.size := (by omega)))
        | (go_at_call 279; ((with_reducible refine (An h2 l2 m _ cd).mono ?_); rintro e w2 ⟨Ei, aeI, rfl, y9, bZ⟩; have iT : ag w2 (w.heap.size) (.int .i64 h1) (.int .u64 l1) := (by (repeat first | with_reducible assumption | with_reducible refine ag.alloc ?_ _ | with_reducible refine ag.call ?_ bZ)); obtain ⟨⟨pa, pf⟩, pn, pp⟩ := id iT; have lA : ag w2 (w.heap.size + 1) (.int .i64 h2) (.int .u64 l2) := (by (repeat first | with_reducible assumption | with_reducible refine ag.alloc ?_ _ | with_reducible refine ag.call ?_ bZ)); obtain ⟨⟨sV, s4⟩, tc, th⟩ := id lA; have lB : ag w2 (w.heap.size + 1 + 1) (.int .i64 0) (.int .u64 0) := (by (repeat first | with_reducible assumption | with_reducible refine ag.alloc ?_ _ | with_reducible refine ag.call ?_ bZ)); obtain ⟨⟨sW, s5⟩, td, ti⟩ := id lB; (try ((refine k8 (p := ag w2 (w.heap.size + 1 + 1 + 1) (.int .u64 0) (.int .u64 0)) ?_ ?_); (repeat first | with_reducible assumption | with_reducible refine ag.alloc ?_ _ | with_reducible refine ag.drew ?_ | with_reducible refine ag.call ?_ bZ | with_reducible refine ag.call ?_ bD); intro q7; obtain ⟨⟨T8, UP⟩, VU, Wm⟩ := id q7; have ZS := ag.lt q7; have aaY := iu (ag.lt q7); have aat := iv (ag.lt q7))); (try ((refine k8 (p := ag w2 (aP.heap.size) (.int .u64 0) (.int .u64 0)) ?_ ?_); (repeat first | focus ((with_reducible refine ag.new ?_); simp; done) | with_reducible refine ag.alloc ?_ _ | with_reducible refine ag.drew ?_ | with_reducible refine ag.call ?_ bZ | with_reducible refine ag.call ?_ bD); intro q8; obtain ⟨⟨T9, UQ⟩, VV, Wn⟩ := id q8; have ZT := ag.lt q8; have aaZ := iu (ag.lt q8); have aau := iv (ag.lt q8))); have nE := Below.size bZ; (try simp at nE); have xf : ¬ w2.heap.size = w.heap.size := (by omega); have zL : ¬ w2.heap.size = w.heap.size + 1 := (by omega); have Dw : ¬ w2.heap.size = w.heap.size + 1 + 1 := (by omega); have wy : ¬ w.heap.size = w2.heap.size := (by omega); have yv : ¬ w.heap.size + 1 = w2.heap.size := (by omega); have B0 : ¬ w.heap.size + 1 + 1 = w2.heap.size := (by omega); have xa : w.heap.size < w2.heap.size := (by omega); have zF : w.heap.size + 1 < w2.heap.size := (by omega); have Di : w.heap.size + 1 + 1 < w2.heap.size := (by omega)))
        | (go_at_call 278; ((with_reducible refine (On _ _ _ _ _ _ _ ol y9).mono ?_); rintro e w3 ⟨ph, pl, rfl, hp, cV⟩; have lC : ag w3 (w.heap.size) (.int .i64 h1) (.int .u64 l1) := (by (repeat first | with_reducible assumption | with_reducible refine ag.alloc ?_ _ | with_reducible refine ag.call ?_ cV)); obtain ⟨⟨wm, wx⟩, wC, wH⟩ := id lC; have q9 : ag w3 (w.heap.size + 1) (.int .i64 h2) (.int .u64 l2) := (by (repeat first | with_reducible assumption | with_reducible refine ag.alloc ?_ _ | with_reducible refine ag.call ?_ cV)); obtain ⟨⟨BK, BV⟩, Cb, Ck⟩ := id q9; have vM : ag w3 (w.heap.size + 1 + 1) (.int .i64 0) (.int .u64 0) := (by (repeat first | with_reducible assumption | with_reducible refine ag.alloc ?_ _ | with_reducible refine ag.call ?_ cV)); obtain ⟨⟨Fz, FJ⟩, FZ, Ga⟩ := id vM; (try ((refine k8 (p := ag w3 (w.heap.size + 1 + 1 + 1) (.int .u64 0) (.int .u64 0)) ?_ ?_); (repeat first | with_reducible assumption | with_reducible refine ag.alloc ?_ _ | with_reducible refine ag.drew ?_ | with_reducible refine ag.call ?_ cV | with_reducible refine ag.call ?_ bZ | with_reducible refine ag.call ?_ bD); intro ra; obtain ⟨⟨Ub, US⟩, VX, Wp⟩ := id ra; have ZU := ag.lt ra; have aa0 := iu (ag.lt ra); have aav := iv (ag.lt ra))); (try ((refine k8 (p := ag w3 (aP.heap.size) (.int .u64 0) (.int .u64 0)) ?_ ?_); (repeat first | with_reducible assumption | with_reducible refine ag.alloc ?_ _ | with_reducible refine ag.drew ?_ | with_reducible refine ag.call ?_ cV | with_reducible refine ag.call ?_ bZ | with_reducible refine ag.call ?_ bD); intro rb; obtain ⟨⟨Uc, UT⟩, VY, Wq⟩ := id rb; have ZV := ag.lt rb; have aa1 := iu (ag.lt rb); have aaw := iv (ag.lt rb))); (try ((refine k8 (p := ag w3 (w2.heap.size) (.int .u64 0) (.int .u64 0)) ?_ ?_); (repeat first | focus ((with_reducible refine ag.new ?_); simp; done) | with_reducible refine ag.alloc ?_ _ | with_reducible refine ag.drew ?_ | with_reducible refine ag.call ?_ cV | with_reducible refine ag.call ?_ bZ | with_reducible refine ag.call ?_ bD); intro rc; obtain ⟨⟨Ud, UU⟩, VZ, Wr⟩ := id rc; have ZW := ag.lt rc; have aa2 := iu (ag.lt rc); have aax := iv (ag.lt rc))); have rZ := Below.size cV; (try simp at rZ); have zM : ¬ w3.heap.size = w.heap.size := (by omega); have Dx : ¬ w3.heap.size = w.heap.size + 1 := (by omega); have Ib : ¬ w3.heap.size = w.heap.size + 1 + 1 := (by omega); have yw : ¬ w.heap.size = w3.heap.size := (by omega); have B1 : ¬ w.heap.size + 1 = w3.heap.size := (by omega); have FU : ¬ w.heap.size + 1 + 1 = w3.heap.size := (by omega); have zG : w.heap.size < w3.heap.size := (by omega); have Dj : w.heap.size + 1 < w3.heap.size := (by omega); have HO : w.heap.size + 1 + 1 < w3.heap.size := (by omega))))
    all_goals
      go_wp2_with fail
      go_meet
      refine ⟨_, ph, pl, rfl, rfl, by omega, hp, ?_, ?_, ?_, ?_, ?_, ?_⟩
      · (repeat first | focus ((with_reducible refine ag.new ?_); simp; done) | with_reducible refine ag.put ?_ | focus ((with_reducible apply fi.of); with_reducible assumption))
      · (repeat first | with_reducible assumption | with_reducible refine ag.alloc ?_ _ | focus ((with_reducible refine ag.set ?_ _ ?_); rotate_left; omega))
      · (repeat first | with_reducible assumption | with_reducible refine ag.alloc ?_ _ | focus ((with_reducible refine ag.set ?_ _ ?_); rotate_left; omega))
      · (repeat first | with_reducible assumption | with_reducible refine ag.alloc ?_ _ | focus ((with_reducible refine ag.set ?_ _ ?_); rotate_left; omega))
      · first | (simp; done) | (simp; omega)
      · (repeat first | with_reducible exact Below.refl _ _ | with_reducible refine cT ?_ _ | focus ((with_reducible refine eJ ?_ _ _ _ ?_); rotate_left; omega) | with_reducible refine Below.drew ?_ | with_reducible refine b4 ?_ cV | with_reducible refine b4 ?_ bZ | with_reducible refine b4 ?_ bD)
  case rest =>
    obtain ⟨g, ph, pl, rfl, rfl, aw, hp, ⟨q1, q2⟩, ⟨cg, ep⟩, ⟨ln, zY⟩, ⟨DW, DX⟩, aZ, ab⟩ := hcut;have ait : ¬ g = w.heap.size := by omega
    have aiu : ¬ g = w.heap.size + 1 := by omega
    have aiv : ¬ g = w.heap.size + 1 + 1 := by omega
    obtain ⟨adl, adm⟩ := q1; obtain ⟨Iv, Iw⟩ := q2; obtain ⟨aiC, aiD⟩ := cg; obtain ⟨aiE, aiF⟩ := ep; obtain ⟨aiG, aiH⟩ := ln; obtain ⟨aiI, aiJ⟩ := zY; obtain ⟨adp, adq⟩ := DW; obtain ⟨ads, adt⟩ := DX;have Hq : w.heap.size + 1 + 1 < wc.heap.size := by omega
    have ML := aeB H1 cd;generalize fa : (n.natAbs : Int) * (m.natAbs : Int) = P at *;have re := Lib.hid fa.symm;have lZ := Lib.hid ML;clear fa ML
    by_cases ar : kI P = true
    · rw [if_pos ar] at hp
      go_wp2_with (go_at_call 280; ((with_reducible refine (aeF _ H1 cd re hp).mono ?_); rintro e fh ⟨je, jf, rfl, aq, eZ⟩; have Rm : ag fh (w.heap.size + 1 + 1) (.int .i64 0) (.int .u64 0) := ag.call ⟨⟨adp, adq⟩, ads, adt⟩ eZ; obtain ⟨⟨Fy, d4⟩, f4, g4⟩ := id Rm))
      refine bodyPost_ret (v := .tuple #[.agg #[.int .i64 je, .int .u64 jf], .bool (fits (n * m))]) (by simp only [results, Tryz.results246]; go_simp) rfl ⟨je, jf, rfl, aq, ?_⟩;refine eJ (eJ (b4 ab eZ) _ _ _ (by omega)) _ _ _ (by omega)
    · have lM : kI P = false := by simpa using ar
      have hm := Lib.hid (lZ.out lM);clear ar
      go_wp2
      refine bodyPost_ret (v := .tuple #[.agg #[.int .i64 0, .int .u64 0], .bool false]) (by simp only [results, Tryz.results246]; go_simp) rfl (vB hm.out ?_);refine eJ (eJ ab _ _ _ (by omega)) _ _ _ (by omega)
end Go.Proofs.YtpochbhajmbfdaaGreat
namespace Go.Proofs.YtpochbhajmbfdaaGreat
open Go.RowKit
theorem afd {n m : Int} (aH : -9223372036854775808 ≤ n) (h1 : n < 9223372036854775808) (gV : -9223372036854775808 ≤ m) (bB : m < 9223372036854775808) : fits (n * m) = true := by
  have a : n.natAbs ≤ 9223372036854775808 := by omega
  have b : m.natAbs ≤ 9223372036854775808 := by omega
  have c := Nat.mul_le_mul a b;rw [← Int.natAbs_mul] at c;unfold fits;rw [cE];omega
theorem SB (n m : Int) (w : World) (aH : -9223372036854775808 ≤ n) (h1 : n < 9223372036854775808) (gV : -9223372036854775808 ≤ m) (bB : m < 9223372036854775808) :
    Calls ai 222 #[.int .i64 n, .int .i64 m] w (o3 (n * m) w) := by
  have RW := Lib.hid (afd aH h1 gV bB)
  go_enter Tryz.func222, Tryz.ntmps222
  go_wp2_with fail
  refine (rh n _ aH h1).mono ?_;rintro e aP ⟨a1, b1, rfl, aE, bD⟩
  go_wp2_with fail
  refine (rh m _ gV bB).mono ?_;rintro e w2 ⟨a2, b2, rfl, hm, bZ⟩
  go_wp2_with fail
  refine (Sd _ _ _ _ _ _ _ aE hm).mono ?_;rintro e w3 ⟨a3, ed, rfl, hp, cV⟩;rw [if_pos RW.out] at hp;have lC : ag w3 (w.heap.size) (.int .i64 0) (.int .u64 0) := (by (repeat first | focus ((with_reducible refine ag.new ?_); simp; done) | with_reducible refine ag.call ?_ cV | with_reducible refine ag.call ?_ bZ | with_reducible refine ag.call ?_ bD)); obtain ⟨⟨wm, wx⟩, wC, wH⟩ := id lC; have mh := Below.size bD; (try simp at mh); have tJ : ¬ aP.heap.size = w.heap.size := (by omega); have s8 : ¬ w.heap.size = aP.heap.size := (by omega); have tG : w.heap.size < aP.heap.size := (by omega); have nE := Below.size bZ; (try simp at nE); have xf : ¬ w2.heap.size = w.heap.size := (by omega); have wy : ¬ w.heap.size = w2.heap.size := (by omega); have xa : w.heap.size < w2.heap.size := (by omega); have rZ := Below.size cV; (try simp at rZ); have zM : ¬ w3.heap.size = w.heap.size := (by omega); have yw : ¬ w.heap.size = w3.heap.size := (by omega); have zG : w.heap.size < w3.heap.size := (by omega)
  go_wp2
  refine bodyPost_ret (v := .agg #[.int .i64 a3, .int .u64 ed]) (by simp only [results, Tryz.results222]; go_simp) rfl ⟨_, _, rfl, hp, ?_⟩;(repeat first | with_reducible exact Below.refl _ _ | with_reducible refine cT ?_ _ | focus ((with_reducible refine eJ ?_ _ _ _ ?_); rotate_left; omega) | with_reducible refine b4 ?_ cV | with_reducible refine b4 ?_ bZ | with_reducible refine b4 ?_ bD)
theorem SN (n : Int) (k : Nat) : ((n * 2 ^ k).natAbs : Int) = (n.natAbs : Int) * 2 ^ k := by
  rw [Int.natAbs_mul, Int.natAbs_pow, Int.natCast_mul];simp
theorem aex {n k : Int} {len : Nat} (h : p8 n.natAbs len) (aH : n ≠ 0) (af : 0 ≤ k) (ay : 128 - (len : Int) < k) : fits (n * 2 ^ k.toNat) = false := by
  have h1 := aac h (by omega) (show 128 < k.toNat + len by omega);have h2 := SN n k.toNat
  rw [show (n.natAbs : Int) * 2 ^ k.toNat = ((n.natAbs * 2 ^ k.toNat : Nat) : Int) by simp] at h2;unfold fits;rw [lp];omega
theorem aey {n k : Int} {len : Nat} (h : p8 n.natAbs len) (aH : n ≠ 0) (af : 0 ≤ k) (ay : k ≤ 128 - (len : Int)) : k < 128 ∧ (n.natAbs : Int) * 2 ^ k.toNat < 340282366920938463463374607431768211456 := by
  have h1 := aad h (show k.toNat + len ≤ 128 by omega);rw [show (n.natAbs : Int) * 2 ^ k.toNat = ((n.natAbs * 2 ^ k.toNat : Nat) : Int) by simp];refine ⟨?_, by omega⟩;rcases h with h | h <;> omega
theorem aeC {h1 l1 n : Int} (k : Nat) (H1 : bu h1 l1 n) : (if decide (h1 < 0) = true then -((n.natAbs : Int) * 2 ^ k) else (n.natAbs : Int) * 2 ^ k) = n * 2 ^ k := by
  have bB := H1.neg;rcases pN n 0 with a | a
  · obtain ⟨x, rfl⟩ : ∃ x : Nat, n = -(x : Int) := ⟨n.natAbs, by omega⟩
    rw [if_pos (bG (bB.2 a)), Int.natAbs_neg, Int.natAbs_natCast, Int.neg_mul]
  · obtain ⟨x, rfl⟩ : ∃ x : Nat, n = (x : Int) := ⟨n.natAbs, by omega⟩
    rw [if_neg (by simp; omega), Int.natAbs_natCast]
theorem aeE {h1 l1 n ph pl P : Int} {k : Nat} (w : World) (H1 : bu h1 l1 n) (e : Hid (P = (n.natAbs : Int) * 2 ^ k)) (hp : cJ ph pl P) :
    Calls ai 280 #[.agg #[.int .u64 ph, .int .u64 pl], .bool (decide (h1 < 0))] w (l3 (n * 2 ^ k) w) := by
  rw [← aeC k H1, ← e.out];exact QC ph pl P _ w hp
theorem Su (k : Int) (w : World) (af : 0 ≤ k) :
    Calls ai 271 #[.agg #[.int .i64 0, .int .u64 0], .int .i64 k] w (gP (.tuple #[.agg #[.int .i64 0, .int .u64 0], .bool true]) w) := by
  have he : fL 0 0 0 0 = true := rfl
  go_enter Tryz.func271, Tryz.ntmps271
  go_wp2
  refine bodyPost_ret (v := .tuple #[.agg #[.int .i64 0, .int .u64 0], .bool true]) (by simp only [results, Tryz.results271]; go_simp) rfl ⟨rfl, ?_⟩;(repeat first | with_reducible exact Below.refl _ _ | with_reducible refine cT ?_ _)
theorem St (h1 l1 n k : Int) (w : World) (H1 : bu h1 l1 n) (aE : n ≠ 0) (af : 0 ≤ k) (wW : k < 9223372036854775808) :
    Calls ai 271 #[.agg #[.int .i64 h1, .int .u64 l1], .int .i64 k] w (l3 (n * 2 ^ k.toNat) w) := by
  have he : fL h1 l1 0 0 = false := by rw [H1.fL ou]; exact b3 aE
  go_enter Tryz.func271, Tryz.ntmps271
  go_wp2_with (go_at_call 279; refine (An h1 l1 n _ H1).mono ?_; rintro e aP ⟨sh, sl, rfl, hs, bD⟩; have ga : ag aP (w.heap.size) (.int .i64 h1) (.int .u64 l1) := (by (repeat first | focus ((with_reducible refine ag.new ?_); simp; done) | with_reducible refine ag.alloc ?_ _ | with_reducible refine ag.call ?_ bD)); obtain ⟨⟨lG, lH⟩, lJ, lK⟩ := id ga; have jl : ag aP (w.heap.size + 1) (.int .i64 0) (.int .u64 0) := (by (repeat first | focus ((with_reducible refine ag.new ?_); simp; done) | with_reducible refine ag.call ?_ bD)); obtain ⟨⟨o9, pe⟩, pk, po⟩ := id jl; have mh := Below.size bD; (try simp at mh); have tJ : ¬ aP.heap.size = w.heap.size := (by omega); have vm : ¬ aP.heap.size = w.heap.size + 1 := (by omega); have s8 : ¬ w.heap.size = aP.heap.size := (by omega); have uM : ¬ w.heap.size + 1 = aP.heap.size := (by omega); have tG : w.heap.size < aP.heap.size := (by omega); have vi : w.heap.size + 1 < aP.heap.size := (by omega))
  refine (Z9 _ _ _ _ hs).mono ?_;rintro e w2 ⟨len, rfl, ao, bZ⟩;have iT : ag w2 (w.heap.size) (.int .i64 h1) (.int .u64 l1) := (by (repeat first | with_reducible assumption | with_reducible refine ag.alloc ?_ _ | with_reducible refine ag.call ?_ bZ)); obtain ⟨⟨pa, pf⟩, pn, pp⟩ := id iT; have lA : ag w2 (w.heap.size + 1) (.int .i64 0) (.int .u64 0) := (by (repeat first | with_reducible assumption | with_reducible refine ag.alloc ?_ _ | with_reducible refine ag.call ?_ bZ)); obtain ⟨⟨sV, s4⟩, tc, th⟩ := id lA; have lB : ag w2 (aP.heap.size) (.int .u64 sh) (.int .u64 sl) := (by (repeat first | focus ((with_reducible refine ag.new ?_); simp; done) | with_reducible refine ag.call ?_ bZ)); obtain ⟨⟨sW, s5⟩, td, ti⟩ := id lB; have nE := Below.size bZ; (try simp at nE); have xf : ¬ w2.heap.size = w.heap.size := (by omega); have zL : ¬ w2.heap.size = w.heap.size + 1 := (by omega); have wy : ¬ w.heap.size = w2.heap.size := (by omega); have yv : ¬ w.heap.size + 1 = w2.heap.size := (by omega); have xa : w.heap.size < w2.heap.size := (by omega); have zF : w.heap.size + 1 < w2.heap.size := (by omega);rw [ks] at ao;have mL := aab ao
  by_cases ay : 128 - (len : Int) < k
  · have lZ := Lib.hid (aex ao aE af ay)
    go_wp2
    refine bodyPost_ret (v := .tuple #[.agg #[.int .i64 0, .int .u64 0], .bool false]) (by simp only [results, Tryz.results271]; go_simp) rfl (vB lZ.out ?_);(repeat first | with_reducible exact Below.refl _ _ | with_reducible refine cT ?_ _ | focus ((with_reducible refine eJ ?_ _ _ _ ?_); rotate_left; omega) | with_reducible refine b4 ?_ bZ | with_reducible refine b4 ?_ bD)
  · obtain ⟨XU, hu⟩ := aey ao aE af (by omega)
    have gF : k ≤ 128 - (len : Int) := by omega
    have A3 := Lib.hid hu;clear hu ay aE;have Yw : Hid (∀ w, Calls ai 292 #[.agg #[.int .u64 sh, .int .u64 sl], .int .u64 k] w (aW ((n.natAbs : Int) * 2 ^ k.toNat) w)) := fun w => Qy _ _ _ _ w hs af XU A3.out;generalize kh : n * 2 ^ k.toNat = N at *;have nc := Lib.hid kh;generalize fa : (n.natAbs : Int) * 2 ^ k.toNat = P at *;have re := Lib.hid fa.symm;clear kh fa
    have Yv : Hid (∀ (ph pl : Int) w, cJ ph pl P → Calls ai 280 #[.agg #[.int .u64 ph, .int .u64 pl], .bool (decide (h1 < 0))] w (l3 N w)) := fun ph pl w hp => by
      rw [← nc.out];exact aeE w H1 re hp
    have ah3 : aP.heap.size < w2.heap.size := by omega
    have CT : IntKind.u64.wrap k = k := by rw [IntKind.wrap_u64]; omega
    go_wp2_with fail
    go_region_held3 (fun w' => (w'.cell? ⟨w.heap.size, 0, none⟩ = some (.int .i64 h1) ∧ w'.cell? ⟨w.heap.size, 1, none⟩ = some (.int .u64 l1)) ∧ (w'.cell? ⟨aP.heap.size, 0, none⟩ = some (.int .u64 sh) ∧ w'.cell? ⟨aP.heap.size, 1, none⟩ = some (.int .u64 sl))) (go_keep)
      (first
        | (go_at_call 292; ((with_reducible refine (Yw.out _).mono ?_); rintro e w3 ⟨I5, I6, rfl, aD, cV⟩; have lC : ag w3 (w.heap.size) (.int .i64 h1) (.int .u64 l1) := (by (repeat first | with_reducible assumption | with_reducible refine ag.drew ?_ | with_reducible refine ag.call ?_ cV)); obtain ⟨⟨wm, wx⟩, wC, wH⟩ := id lC; have q9 : ag w3 (w.heap.size + 1) (.int .i64 0) (.int .u64 0) := (by (repeat first | with_reducible assumption | with_reducible refine ag.drew ?_ | with_reducible refine ag.call ?_ cV)); obtain ⟨⟨BK, BV⟩, Cb, Ck⟩ := id q9; have vM : ag w3 (aP.heap.size) (.int .u64 sh) (.int .u64 sl) := (by (repeat first | with_reducible assumption | with_reducible refine ag.drew ?_ | with_reducible refine ag.call ?_ cV)); obtain ⟨⟨Fz, FJ⟩, FZ, Ga⟩ := id vM; have rZ := Below.size cV; (try simp at rZ); have zM : ¬ w3.heap.size = w.heap.size := (by omega); have Dx : ¬ w3.heap.size = w.heap.size + 1 := (by omega); have yw : ¬ w.heap.size = w3.heap.size := (by omega); have B1 : ¬ w.heap.size + 1 = w3.heap.size := (by omega); have zG : w.heap.size < w3.heap.size := (by omega); have Dj : w.heap.size + 1 < w3.heap.size := (by omega)))
        | (go_at_call 280; ((with_reducible refine (Yv.out _ _ _ aD).mono ?_); rintro e fh ⟨je, jf, rfl, aq, eZ⟩; have AO : ag fh (w.heap.size) (.int .i64 h1) (.int .u64 l1) := (by (repeat first | with_reducible assumption | with_reducible refine ag.call ?_ eZ)); obtain ⟨⟨KI, K7⟩, LF, LV⟩ := id AO; have AP : ag fh (w.heap.size + 1) (.int .i64 0) (.int .u64 0) := (by (repeat first | with_reducible assumption | with_reducible refine ag.call ?_ eZ)); obtain ⟨⟨KJ, K8⟩, LG, LW⟩ := id AP; have AQ : ag fh (aP.heap.size) (.int .u64 sh) (.int .u64 sl) := (by (repeat first | with_reducible assumption | with_reducible refine ag.call ?_ eZ)); obtain ⟨⟨KK, K9⟩, LH, LX⟩ := id AQ; have Hr := Below.size eZ; (try simp at Hr); have Ox : ¬ fh.heap.size = w.heap.size := (by omega); have Oy : ¬ fh.heap.size = w.heap.size + 1 := (by omega); have Lu : ¬ w.heap.size = fh.heap.size := (by omega); have Lv : ¬ w.heap.size + 1 = fh.heap.size := (by omega); have NW : w.heap.size < fh.heap.size := (by omega); have NX : w.heap.size + 1 < fh.heap.size := (by omega))))
    all_goals
      go_wp2
      refine bodyPost_ret (v := .tuple #[.agg #[.int .i64 je, .int .u64 jf], .bool (fits N)]) (by simp only [results, Tryz.results271]; go_simp) rfl ⟨je, jf, rfl, aq, ?_⟩;(repeat first | with_reducible exact Below.refl _ _ | with_reducible refine cT ?_ _ | focus ((with_reducible refine eJ ?_ _ _ _ ?_); rotate_left; omega) | with_reducible refine Below.drew ?_ | with_reducible refine b4 ?_ eZ | with_reducible refine b4 ?_ cV | with_reducible refine b4 ?_ bZ | with_reducible refine b4 ?_ bD)
end Go.Proofs.YtpochbhajmbfdaaGreat
namespace Go.Proofs.YtpochbhajmbfdaaGreat
open Go.RowKit
theorem Ss (h1 l1 n k : Int) (w : World) (H1 : bu h1 l1 n) (af : 0 ≤ k) (wW : k < 9223372036854775808) :
    Calls ai 271 #[.agg #[.int .i64 h1, .int .u64 l1], .int .i64 k] w (l3 (n * 2 ^ k.toNat) w) := by
  by_cases e : n = 0
  · subst e
    obtain ⟨rfl, rfl⟩ := H1.inj ou;rw [Int.zero_mul];exact (Su k w af).mono fun e w' ⟨he, ab⟩ => ⟨0, 0, he, by show bu 0 0 0; exact ou, ab⟩
  · exact St h1 l1 n k w H1 e af wW
end Go.Proofs.YtpochbhajmbfdaaGreat
