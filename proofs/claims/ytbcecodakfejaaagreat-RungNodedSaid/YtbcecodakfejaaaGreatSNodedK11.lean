/-
  My own texts, without what this claim does not need. My own text.
-/
import Derived.Laws.BytesArg
import Derived.Test.YtbcecodakfejaaaGreatSNodedK10
set_option maxRecDepth 100000
set_option maxHeartbeats 64000000
set_option linter.unusedVariables false
set_option linter.unusedSimpArgs false
set_option linter.unusedSectionVars false
open Go.Proofs.Tryz renaming prog → ag
namespace Go.Proofs.YtbcecodakfejaaaGreat
open Go.RowKit
def iS (g e : Nat) (cs : List AC) : bG := ⟨e, cs.length, .slice (some ⟨g, 0, none⟩) 1 1, 1, cs⟩
theorem uO {g e : Nat} {cs : List AC} (aP : 0 < cs.length) {b : Nat} : (iS g e cs).own b ↔ b = g := by
 constructor
 ·intro h;have h := bG.oW h (by exact aP);have : (some g : Option Nat) = some b := h;exact (kJ this).symm
 ·rintro rfl; exact .inl rfl
theorem KE {U : Nat → Prop} {ad : Nat → Nat} {W : World} {g e : Nat} {cs : List AC} (aP : 0 < cs.length) : (iS g e cs).ok U ad W ↔ ∃ vs : List Value, W.heap[g]? = some (.cells vs.toArray e (0, 0)) ∧ bL U ad W cs vs := by
 constructor
 ·intro h;obtain ⟨xs, ⟨ak, aU⟩, ap⟩ := h.row aP;rcases aU with ⟨aD, _⟩ | ⟨jk, cap, cur, hv, _, qF, _, _, aj, hq⟩
  ·cases aD
  ·cases hv;have aj : cur.size = 1 * cs.length := aj;have hq : cur.toList.take (1 * cs.length) = xs := hq;have aF : cur.toList = xs := by rw [← hq]; exact (gn (by rw [Array.length_toList]; omega)).symm
   refine ⟨xs, ?_, ap⟩;rw [← aF, Array.toArray_toList];exact qF
 ·rintro ⟨vs, h1, h2⟩;have ak := h2.1;refine .inl ⟨aP, vs, ⟨by show vs.length = 1 * cs.length; omega, .inr ⟨g, 1, vs.toArray, rfl, dC _, h1, dJ _, by unfold maxLen; decide, by show vs.length = 1 * cs.length; omega, ?_⟩⟩, h2⟩;show vs.take (1 * cs.length) = vs;exact gn (by omega)
theorem tq {ad : Nat → Nat} {k g e i : Nat} {cs : List AC} {R : aI} (aP : 0 < cs.length) (hi : R i = none) (af : ad k = g) {b : Nat} {aY : Nat → Nat} : en ad (cN k cs) R b ↔ en aY ca (bK R i (iS g e cs)) b := by
 constructor
 ·rintro (⟨k', au, h1, h2⟩ | ⟨j, r, h1, h2⟩)
  ·obtain ⟨rfl, rfl⟩ := hK h1;exact .inr ⟨i, _, cx _ _ _, (uO aP).2 (h2.symm.trans af)⟩
  ·have : j ≠ i := fun e => by subst e; rw [hi] at h1; cases h1
   exact .inr ⟨j, r, by rw [cl _ _ this]; exact h1, h2⟩
 ·rintro (⟨k', au, h1, h2⟩ | ⟨j, r, h1, h2⟩)
  ·cases h1
  ·by_cases lm : j = i
   ·subst lm;rw [cx] at h1;cases h1;exact .inl ⟨k, cs, by unfold cN; exact cx _ _ _, af.trans ((uO aP).1 h2).symm⟩
   ·rw [cl _ _ lm] at h1;exact .inr ⟨j, r, h1, h2⟩
theorem MM {U : Nat → Prop} {ad aY : Nat → Nat} {W : World} {k g e i : Nat} {cs : List AC} {R : aI} (aP : 0 < cs.length) (aj : cs.all AC.aZ = true) (hi : R i = none) (af : ad k = g) (h : e3 U aY W ca (bK R i (iS g e cs))) : e3 U ad W (cN k cs) R := by
 have bU : ∀ {j r}, R j = some r → j ≠ i := fun {j r} h1 e => by subst e; rw [hi] at h1; cases h1
 obtain ⟨h1, h2, an⟩ := h.rows i _ (cx _ _ _);obtain ⟨vs, w1, w2⟩ := (KE aP).1 h1;have cZ := cB.1 aj;refine ⟨fun k' au eL => ?_, fun k' au x j eL aa ae => ?_, fun bl bJ c1 c2 h1 h2 _ => ?_, fun j r ae => ?_, fun j eS r q ae jQ Cx => ?_⟩
 ·obtain ⟨rfl, rfl⟩ := hK eL;exact ⟨vs, e, by rw [af]; exact w1, w2.map (fun b ab _ => ⟨ab, rfl⟩) fun j x aa ae => absurd ae (AC.du (cZ x aa) j), by rw [af]; exact (an g ((uO aP).2 rfl)).1⟩
 ·obtain ⟨rfl, rfl⟩ := hK eL;exact absurd ae (AC.du (cZ x aa) j)
 ·exact (hK h1).1.trans (hK h2).1.symm
 ·obtain ⟨q1, q2, bO⟩ := h.rows j r (by rw [cl _ _ (bU ae)]; exact ae);refine ⟨q1.kept q2 (fun _ _ => rfl) (dJ _) (fun b ab _ => ⟨ab, rfl⟩), q2, fun b ab => ⟨(bO b ab).1, fun k' au eL e => ?_⟩⟩;obtain ⟨rfl, rfl⟩ := hK eL;exact h.apart i j _ r (cx _ _ _) (by rw [cl _ _ (bU ae)]; exact ae) (Ne.symm (bU ae)) b ((uO aP).2 (e.symm.trans af)) ab
 ·exact h.apart j eS r q (by rw [cl _ _ (bU ae)]; exact ae) (by rw [cl _ _ (bU jQ)]; exact jQ) Cx
theorem KD {U : Nat → Prop} {ad aY : Nat → Nat} {W : World} {k i : Nat} {cs : List AC} {R : aI} (aP : 0 < cs.length) (aj : cs.all AC.aZ = true) (hi : R i = none) (h : e3 U ad W (cN k cs) R) : ∃ e, e3 U aY W ca (bK R i (iS (ad k) e cs)) := by
 have bU : ∀ {j r}, R j = some r → j ≠ i := fun {j r} h1 e => by subst e; rw [hi] at h1; cases h1
 have oG : cN k cs k = some cs := by unfold cN; exact cx _ _ _
 obtain ⟨vs, e, w1, w2, w3⟩ := h.dn k cs oG;have cZ := cB.1 aj
 have D5 : ∀ {j q}, bK R i (iS (ad k) e cs) j = some q → (j = i ∧ q = iS (ad k) e cs) ∨ (j ≠ i ∧ R j = some q) := fun {j q} ae => by
  by_cases lm : j = i
  ·subst lm; rw [cx] at ae; cases ae; exact .inl ⟨rfl, rfl⟩
  ·rw [cl _ _ lm] at ae; exact .inr ⟨lm, ae⟩
 refine ⟨e, fun k' au eL => (by cases eL), fun k' au x j eL => (by cases eL), fun bl bJ c1 c2 h1 => (by cases h1), fun j q ae => ?_, fun j eS q bX ae jQ Cx b ab c4 => ?_⟩
 ·rcases D5 ae with ⟨rfl, rfl⟩ | ⟨_, w8⟩
  ·refine ⟨(KE aP).2 ⟨vs, w1, w2.map (fun b ab _ => ⟨ab, rfl⟩) fun j x aa ae => absurd ae (AC.du (cZ x aa) j)⟩, cZ, fun b ab => ⟨?_, fun k' au eL => (by cases eL)⟩⟩;rw [(uO aP).1 ab]; exact w3
  ·obtain ⟨q1, q2, bO⟩ := h.rows j q w8;exact ⟨q1.kept q2 (fun _ _ => rfl) (dJ _) (fun b ab _ => ⟨ab, rfl⟩), q2, fun b ab => ⟨(bO b ab).1, fun k' au eL => (by cases eL)⟩⟩
 ·rcases D5 ae with ⟨rfl, rfl⟩ | ⟨_, w8⟩
  ·rcases D5 jQ with ⟨rfl, rfl⟩ | ⟨_, Gw⟩
   ·exact Cx rfl
   ·rw [(uO aP).1 ab] at c4;exact ((h.rows eS bX Gw).2.2 _ c4).2 k cs oG rfl
  ·rcases D5 jQ with ⟨rfl, rfl⟩ | ⟨_, Gw⟩
   ·rw [(uO aP).1 c4] at ab;exact ((h.rows j q w8).2.2 _ ab).2 k cs oG rfl
   ·exact h.apart j eS q bX w8 Gw Cx b ab c4
theorem dk.agL {P : Program} {f : FuncId} {args : List ah} {k : Nat} {cs : List AC} {R0 : aI} {Post : ah → Mem → aI → Prop} (i : Nat) (g e : Nat) (h : dk P f (.w (.one (.own k 0)) :: args) (cN k cs) R0 Post) (ek : args.all ah.aZ = true) (dT : cs.all AC.aZ = true) (aP : 0 < cs.length) (hi : R0 i = none)
  (hp : ∀ v aG ay, Post v aG ay → v.aZ = true ∧ ay i = none ∧ ∃ au, aG = cN k au ∧ au.all AC.aZ = true ∧ 0 < au.length) :
  dk P f (aR (ea g) :: args) ca (bK R0 i (iS g e cs)) fun v aG ay => ∃ au ba bq, Post v (cN k au) ba ∧ aG = ca ∧ ay = bK ba i (iS g bq au) := by
 refine ⟨fun U ad W vs cj cp cL => ?_⟩
 let eG : Nat → Nat := fun j => if j = k then g else ad j
 have qG : eG k = g := if_pos rfl;have EC := MM (ad := eG) aP dT hi qG cj;obtain ⟨hlen, hv⟩ := cL
 match vs, hlen with
 | v0 :: vs, hlen =>
  have oL : v0 = ea g := (hv 0 _ v0 rfl rfl).1;have vk : kb U eG W args vs := kb.closed ek ⟨by simpa using hlen, fun j x v aa bR => hv (j + 1) x v aa bR⟩;refine (h.call U eG W (v0 :: vs) EC (fun x aa j ae => ?_) ⟨by simpa using hlen, fun j x v aa bR => ?_⟩).mono ?_
  ·rcases fD.1 aa with rfl | aa
   ·obtain ⟨y, ai, ae⟩ := ae;simp [bz.cells] at ai;subst ai;cases ae;exact ⟨cs, by unfold cN; exact cx _ _ _⟩
   ·exact absurd ae (ah.du (cB.1 ek x aa) j)
  ·match j with
   | 0 => cases aa; cases bR; exact Qy (off := 0) (oL.trans (by rw [qG]))
   | j + 1 => exact vk.2 j x v aa bR
  ·rintro cX bh ⟨v, r, aG, ay, aY, cF, rfl, jU, ih, pN, iV, bl, bJ, b3, b7, ab⟩;obtain ⟨c1, ax, au, rfl, c2, ke⟩ := hp _ _ _ jU;have eL : aY k = g := (bl k cs (by unfold cN; exact cx _ _ _)).1.trans qG;obtain ⟨bq, A3⟩ := KD (aY := aY) ke c2 ax ih;rw [eL] at A3;refine ⟨v, r, ca, bK ay i (iS g bq au), aY, cF, rfl, ⟨au, ay, bq, jU, rfl, rfl⟩, A3, pN, fun j ae => absurd ae (ah.du c1 j), fun e5 gT aD => (by cases aD), fun j gN ae => ?_, fun b c4 => ?_, fun b c4 => ?_, ⟨ab.os, ab.tape, ab.output, ab.size, fun b ar => ab.block b ⟨ar.1, fun aU => ar.2 ((tq aP hi qG).1 aU)⟩⟩⟩
   ·by_cases lm : j = i
    ·subst lm; exact ⟨_, cx _ _ _⟩
    ·rw [cl _ _ lm] at ae;obtain ⟨q, al⟩ := bJ j gN ae;exact ⟨q, by rw [cl _ _ lm]; exact al⟩
   ·rcases b3 b c4 with q | q | q
    ·exact .inl q
    ·exact .inr (.inl q)
    ·exact .inr (.inr ((tq aP hi qG).1 q))
   ·rcases b7 b ((tq ke ax eL).2 c4) with q | q
    ·exact .inl ((tq aP hi qG).1 q)
    ·exact .inr q
theorem dk.agK {P : Program} {f : FuncId} {args : List ah} {k : Nat} {cs : List AC} {R0 : aI} {Post : ah → Mem → aI → Prop} (i : Nat) (h : ∀ g e, dk P f (aR (ea g) :: args) ca (bK R0 i (iS g e cs)) fun v aG ay => ∃ au ba bq, Post v (cN k au) ba ∧ aG = ca ∧ ay = bK ba i (iS g bq au))
  (ek : args.all ah.aZ = true) (dT : cs.all AC.aZ = true) (aP : 0 < cs.length) (hi : R0 i = none) (hp : ∀ v au ay, Post v (cN k au) ay → v.aZ = true ∧ ay i = none ∧ au.all AC.aZ = true ∧ 0 < au.length) :
  dk P f (.w (.one (.own k 0)) :: args) (cN k cs) R0 Post := by
 refine ⟨fun U ad W vs cj cp cL => ?_⟩;obtain ⟨e, EC⟩ := KD (aY := ad) aP dT hi cj;obtain ⟨hlen, hv⟩ := cL
 match vs, hlen with
 | v0 :: vs, hlen =>
  have oL : v0 = ea (ad k) := hv 0 _ v0 rfl rfl;have vk : kb U ad W args vs := kb.closed ek ⟨by simpa using hlen, fun j x v aa bR => hv (j + 1) x v aa bR⟩;refine ((h (ad k) e).call U ad W (v0 :: vs) EC (fun x aa j ae => ?_) ⟨by simpa using hlen, fun j x v aa bR => ?_⟩).mono ?_
  ·rcases fD.1 aa with rfl | aa
   ·exact absurd ae (iE _ j)
   ·exact absurd ae (ah.du (cB.1 ek x aa) j)
  ·match j with
   | 0 => cases aa; cases bR; exact ⟨oL, by rfl⟩
   | j + 1 => exact vk.2 j x v aa bR
  ·rintro cX bh ⟨v, r, aG, ay, aY, cF, rfl, ⟨au, ba, bq, jU, rfl, rfl⟩, ih, pN, iV, bl, bJ, b3, b7, ab⟩;obtain ⟨c1, ax, c2, ke⟩ := hp _ _ _ jU
   let vY : Nat → Nat := fun j => if j = k then ad k else aY j
   have Cp : vY k = ad k := if_pos rfl;have A3 := MM (ad := vY) ke c2 ax Cp ih;refine ⟨v, r, cN k au, ba, vY, cF, rfl, jU, A3, ?_, fun j ae => absurd ae (ah.du c1 j), fun e5 gT aD => ?_, fun j gN ae => ?_, fun b c4 => ?_, fun b c4 => ?_, ⟨ab.os, ab.tape, ab.output, ab.size, fun b ar => ab.block b ⟨ar.1, fun aU => ar.2 ((tq aP hi rfl).2 aU)⟩⟩⟩
   ·exact pN.map (fun b ab _ => ⟨ab, rfl⟩) fun j ae => absurd ae (ah.du c1 j)
   ·obtain ⟨rfl, rfl⟩ := hK aD;exact ⟨Cp, au, by unfold cN; exact cx _ _ _⟩
   ·have jQ : j ≠ i := fun e => by subst e; rw [hi] at ae; cases ae
    obtain ⟨q, al⟩ := bJ j gN (by rw [cl _ _ jQ]; exact ae);rw [cl _ _ jQ] at al;exact ⟨q, al⟩
   ·rcases b3 b c4 with q | q | q
    ·exact .inl q
    ·exact .inr (.inl q)
    ·exact .inr (.inr ((tq aP hi rfl).2 q))
   ·rcases b7 b ((tq ke ax Cp).1 c4) with q | q
    ·exact .inl ((tq aP hi rfl).2 q)
    ·exact .inr q
abbrev mT (V : List ao) (D : List Int) : ah := .w (.agg [.p (cc 2 V.length (bP V)), .p (cc 1 D.length (cA D))])
abbrev vu (V : List ao) (D : List Int) : List AC := [.p (cc 2 V.length (bP V)), .p (cc 1 D.length (cA D))]
abbrev BC (b : Bool) : AC := .p (EN [.c (.bool (!b))])
abbrev vT (l d : Bool) : ah := .w (.one (.p (pf (.func 137) [BC l, BC d])))
theorem acq {a1 a2 b1 b2 : Int} : aC ag 101 [aK a1 a2, aK b1 b2] (vT (decide (b1 < a1)) (decide (b2 < a2))) := by
 have aF : decide (b1 ≥ a1) = !decide (b1 < a1) := by by_cases h : b1 < a1 <;> simp [h] <;> omega
 have aM : decide (b2 ≥ a2) = !decide (b2 < a2) := by by_cases h : b2 < a2 <;> simp [h] <;> omega
 refine ad2 (f := 101) Tryz.func101 rfl rfl rfl rfl ?_;refine Kx (Ff ?_);(refine eF ?_);refine Kx (Ff ?_);(refine eF ?_);refine Kw 5 _ rfl rfl ?_;refine Kw 6 _ rfl rfl ?_;refine Ff ?_;(repeat first | refine ez ?_ | refine Uo (xs := [_, _]) (cs := [_, _]) rfl rfl rfl rfl ?_)
 ((refine bc rfl (bf rfl aN) ?_))
 exact ah.aQ.of_eq (by rw [aF, aM]; rfl)
theorem ac3 {x y z w : Int} {l d r : Bool} (ap : yo x y z w l d = r) : aC ag 137 [aK x y, aK z w, .w (.one (BC l)), .w (.one (BC d))] (bk r) := by
 have cs : (¬ x = z ∧ z < x ∧ r = l) ∨ (¬ x = z ∧ ¬ z < x ∧ r = !l) ∨ (x = z ∧ ¬ y = w ∧ w < y ∧ r = d) ∨ (x = z ∧ ¬ y = w ∧ ¬ w < y ∧ r = !d) ∨ (x = z ∧ y = w ∧ r = false) := by
  rw [← ap]; unfold yo
  by_cases h1 : x < z <;> by_cases h2 : z < x <;> by_cases an : y < w <;> by_cases aE : w < y <;> simp [h1, h2, an, aE] <;> omega
 clear ap;rcases cs with ⟨h1, h2, rfl⟩ | ⟨h1, h2, rfl⟩ | ⟨h1, an, h2, rfl⟩ | ⟨h1, an, h2, rfl⟩ | ⟨h1, an, rfl⟩
 all_goals
  refine bm (f := 137) Tryz.func137 rfl rfl rfl rfl ?_;(repeat first | refine ez ?_ | (with_reducible apply T1); (iterate 4 rfl); kernel_rfl | (with_reducible apply cW (c := true)); rfl; rfl; ((simp only [qs]; (omega))) | (with_reducible apply cW (c := false)); rfl; rfl; ((simp only [qs]; (omega))))
  ((refine bc rfl (bf rfl aN) ?_))
  first
  | exact ah.aQ.refl _
  | exact ah.aQ.of_eq (by rw [c3 (show ¬ x < z by omega), Bool.false_beq, Bool.not_not]; rfl)
  | exact ah.aQ.of_eq (by rw [cw (show x < z by omega), Bool.true_beq]; rfl)
  | exact ah.aQ.of_eq (by rw [c3 (show ¬ y < w by omega), Bool.false_beq, Bool.not_not]; rfl)
  | exact ah.aQ.of_eq (by rw [cw (show y < w by omega), Bool.true_beq]; rfl)
section
variable {P : Program} {s : aA} {ops : Array Oper} {K : aA → Prop} {rest : List Oper} {ty : Nat} {pos : String} {after : Array Edge} {guard : Option (Nat × Bool)} {d : Nat}
theorem UB {df dU : Nat} {x y : Operand} {a b : Int} (hw : want ops ⟨some d, .binOp .quo df x y dU, ty, pos, after, guard⟩ s = some true) (aa : s.look x = some (aR (.int .i64 a))) (ai : s.look y = some (aR (.int .i64 b))) (aD : 0 ≤ a) (h1 : 0 < b) (h2 : a ≤ 9223372036854775807) (hd : Nat.blt d s.n = true) (h : bb P ops K rest (s.put (some d) (aR (.int .i64 (a / b))))) : bb P ops K (⟨some d, .binOp .quo df x y dU, ty, pos, after, guard⟩ :: rest) s := by
 refine qo hw aa ai (fun W => ?_) rfl hd h;have ab : b ≠ 0 := by omega
 have e : a.tdiv b = a / b := Int.tdiv_eq_ediv_of_nonneg aD
 have aM : IntKind.i64.wrap (a / b) = a / b := n2 (by
  have := nG aD (show 0 ≤ b by omega);have := Int.ediv_le_self b aD;omega)
 simp [binOp, Op.intDiv, ab, e, aM]
end
theorem NN : bP [] = [] := rfl
theorem NO (p : Int × Int) (l : List (Int × Int)) : ((bP (p :: l)).drop ((1 : Int).toNat * 2)).take (l.length * 2) = bP l := by
 show ((bP (p :: l)).drop 2).take (l.length * 2) = bP l;rw [← n4];simp [bP]
theorem Hf (p : Int × Int) (l : List (Int × Int)) : bP l ++ [.c (.int .i64 p.1), .c (.int .i64 p.2)] = bP (l ++ [p]) := by rw [qM]; rfl
theorem ZM (l : List (Int × Int)) (k : Nat) : ((bP l).drop (0 * 2)).take ((l.take k).length * 2) = bP (l.take k) := by
 have e : bP l = bP (l.take k) ++ bP (l.drop k) := by rw [← qM, j2]
 rw [e, Nat.zero_mul, List.drop_zero, ← n4];simp
theorem ZK (l : List (Int × Int)) (k : Nat) (af : k ≤ l.length) : ((bP l).drop (k * 2)).take ((l.drop k).length * 2) = bP (l.drop k) := by
 have e : bP l = bP (l.take k) ++ bP (l.drop k) := by rw [← qM, j2]
 have aM : k * 2 = (bP (l.take k)).length := by rw [n4, dK, o8 af]
 rw [e, aM, List.drop_left, ← n4, List.take_length]
abbrev iH (v : Value) (l : List (Int × Int)) : bG := ⟨36, 2, v, l.length, bP l⟩
instance aiI : kR ag 27 36 2 16 := ⟨by kernel_rfl⟩
def SY (M : List (Int × Int)) (lt : Int × Int → Int × Int → Bool) (C2 : ah) (K : Nat) (m : Nat) (R : aI) (aL : List (Nat × ah)) (bd : List (Nat × List AC)) : Prop :=
 ∃ (a b out : List (Int × Int)) (v : Value), m = a.length + b.length ∧ out ++ eU lt a b = M ∧ out.length + m = K ∧ R = br 0 (iH v out) ∧ aL = [(0, gA a), (1, gA b), (2, C2), (7, aR v)] ∧ bd = []
theorem H9 {fx fy : Bool} {a b : List (Int × Int)} (aJ : a.length ≤ 100000) (ab : b.length ≤ 100000) :
  aC ag 136 [gA a, gA b, vT fx fy] (gA (eU (dL fx fy) a b)) := by
 refine bm (f := 136) Tryz.func136 rfl rfl rfl rfl ?_;refine ow ?_;(refine a7 ?_);refine zi (l := 0) (c' := a.length + b.length) 0 rfl rfl rfl rfl (dC _) rfl rfl ?h2 (iY (by omega)) rfl (fun v hv => ?_)
 case h2 => omega
 (refine a7 ?_);refine jz 52 (SY (eU (dL fx fy) a b) (dL fx fy) (vT fx fy) (a.length + b.length)) (a.length + b.length) (br 0 (iH v [])) _ _ ⟨a, b, [], v, rfl, rfl, jd _, rfl, rfl, rfl⟩ (jx _ _ _) rfl ⟨rfl, rfl, rfl, rfl, trivial⟩ trivial rfl ?_;rintro m R aL bd ⟨a', bT, out, v, rfl, fP, fk, rfl, rfl, rfl⟩ c0;clear c0 hv
 by_cases Ip : 0 < a'.length
 ·by_cases Iq : 0 < bT.length
  ·have QK : (a'.length : Int) > 0 := by omega
   have aes : (bT.length : Int) > 0 := by omega
   obtain ⟨⟨x, n⟩, a2, rfl⟩ := List.exists_cons_of_length_pos Ip;obtain ⟨⟨y, m⟩, b2, rfl⟩ := List.exists_cons_of_length_pos Iq;have jE : ((bP ((x, n) :: a2)).drop ((0 : Int).toNat * 2)).take 2 = [.c (.int .i64 x), .c (.int .i64 n)] := pR (j := 0) (i := 0) rfl rfl;have x1 : ((bP ((y, m) :: b2)).drop ((0 : Int).toNat * 2)).take 2 = [.c (.int .i64 y), .c (.int .i64 m)] := pR (j := 0) (i := 0) rfl rfl;have aT := ac3 (x := y) (y := m) (z := x) (w := n) (l := fx) (d := fy) rfl;rw [show yo y m x n fx fy = dL fx fy (y, m) (x, n) from rfl] at aT;cases bg : dL fx fy (y, m) (x, n) with
   | true =>
    rw [bg] at aT;have aF : ((y, m) :: b2).length - (1 : Int).toNat = b2.length := rfl;have aM := NO (y, m) b2
    have F7 : (out ++ [(y, m)]) ++ eU (dL fx fy) ((x, n) :: a2) b2 = eU (dL fx fy) a b := by
     rw [← fP, eU, if_pos bg, iu]; rfl
    have GA : (out ++ [(y, m)]).length = out.length + 1 := cJ;have nm : ((y, m) :: b2).length = b2.length + 1 := rfl;have Yi : ((x, n) :: a2).length = a2.length + 1 := rfl;(repeat first | (with_reducible apply dQ (id := 3) [0,1,2,3,4,5,6,7]); kernel_rfl; kernel_rfl; rfl | (with_reducible apply dQ (id := 4) [0,1,2,3,6,7,4,5,8,9]); kernel_rfl; kernel_rfl; rfl | refine c5 ?_ | (with_reducible apply jo); rfl; (repeat first | refine jC ?_ | refine jB ?_ | (with_reducible apply cW (c := true)); rfl; rfl; (exact cw (by omega))); (with_reducible apply iy));refine nr 0 rfl rfl rfl rfl ?q1 ?q2 rfl rfl (fun v' bR => ?_)
    case q1 => exact iY (by show out.length + 1 ≤ 1000000; omega)
    case q2 => show (out.length + 1) * 16 ≤ 140737488355328; omega
    (refine a7 ?_)
    have cg : iH v' (out ++ [(y, m)]) = ⟨36, 2, v', out.length + 1, bP out ++ [.c (.int .i64 y), .c (.int .i64 m)]⟩ := by
     unfold iH; rw [← Hf, cJ]; rfl
    refine ⟨_, br 0 (iH v' (out ++ [(y, m)])), _, _, ?_, ⟨(x, n) :: a2, b2, out ++ [(y, m)], v', rfl, F7, ?_, rfl, rfl, rfl⟩, by rw [cg]; exact jx _ _ _, rfl, ⟨rfl, rfl, rfl, rfl, trivial⟩, trivial, rfl⟩
    ·omega
    ·omega
   | false =>
    rw [bg] at aT;have aF : ((x, n) :: a2).length - (1 : Int).toNat = a2.length := rfl;have aM := NO (x, n) a2
    have F7 : (out ++ [(x, n)]) ++ eU (dL fx fy) a2 ((y, m) :: b2) = eU (dL fx fy) a b := by
     rw [← fP, eU, if_neg (by rw [bg]; decide), iu]; rfl
    have GA : (out ++ [(x, n)]).length = out.length + 1 := cJ;have nm : ((y, m) :: b2).length = b2.length + 1 := rfl;have Yi : ((x, n) :: a2).length = a2.length + 1 := rfl;(repeat first | (with_reducible apply dQ (id := 3) [0,1,2,3,4,5,6,7]); kernel_rfl; kernel_rfl; rfl | (with_reducible apply dQ (id := 5) [0,1,2,3,6,7,4,5,8,9]); kernel_rfl; kernel_rfl; rfl | refine c5 ?_ | (with_reducible apply jo); rfl; (repeat first | refine jC ?_ | refine jB ?_ | (with_reducible apply cW (c := true)); rfl; rfl; (exact cw (by omega))); (with_reducible apply iy));refine nr 0 rfl rfl rfl rfl ?q1 ?q2 rfl rfl (fun v' bR => ?_)
    case q1 => exact iY (by show out.length + 1 ≤ 1000000; omega)
    case q2 => show (out.length + 1) * 16 ≤ 140737488355328; omega
    (refine a7 ?_)
    have cg : iH v' (out ++ [(x, n)]) = ⟨36, 2, v', out.length + 1, bP out ++ [.c (.int .i64 x), .c (.int .i64 n)]⟩ := by
     unfold iH; rw [← Hf, cJ]; rfl
    refine ⟨_, br 0 (iH v' (out ++ [(x, n)])), _, _, ?_, ⟨a2, (y, m) :: b2, out ++ [(x, n)], v', rfl, F7, ?_, rfl, rfl, rfl⟩, by rw [cg]; exact jx _ _ _, rfl, ⟨rfl, rfl, rfl, rfl, trivial⟩, trivial, rfl⟩
    ·omega
    ·omega
  ·have QK : (a'.length : Int) > 0 := by omega
   have aes : ¬ (bT.length : Int) > 0 := by omega
   have MG : bT = [] := List.length_eq_zero_iff.1 (by omega);have aP : (a'.length : Int) = a'.length := rfl;(repeat first | refine c5 ?_ | (with_reducible apply jo); rfl; (repeat first | refine jC ?_ | (with_reducible apply cW (c := true)); rfl; rfl; (exact cw (by omega))); (with_reducible apply iy));refine nr 0 rfl rfl rfl rfl ?q1 ?q2 (vq _) rfl (fun v' bR => ?_)
   case q1 => exact iY (by show out.length + a'.length ≤ 1000000; omega)
   case q2 => show (out.length + a'.length) * 16 ≤ 140737488355328; omega
   (refine a7 ?_);refine Na (k := (eU (dL fx fy) a b).length) (zs := bP (eU (dL fx fy) a b)) 0 rfl rfl rfl rfl ?p1 ?p2 ?p3 ?p4 (vq _) rfl ?_
   case p1 => exact iY (by show (out.length + a'.length) + bT.length ≤ 1000000; omega)
   case p2 => show ((out.length + a'.length) + bT.length) * 16 ≤ 140737488355328; omega
   case p3 => show (out.length + a'.length) + bT.length = (eU (dL fx fy) a b).length; rw [HI]; omega
   case p4 => show (bP out ++ bP a') ++ bP bT = bP (eU (dL fx fy) a b); rw [← fP, MG, HJ, ← qM, NN, nC]
   (refine a7 ?_)
   ((refine bc rfl (bf rfl aN) ?_))
   exact ah.aQ.refl _
 ·have QK : ¬ (a'.length : Int) > 0 := by omega
  have Xp : a' = [] := List.length_eq_zero_iff.1 (by omega);(repeat first | refine c5 ?_ | (with_reducible apply jo); rfl; (repeat first | refine jC ?_ | (with_reducible apply cW (c := false)); rfl; rfl; (exact c3 (by omega))); (with_reducible apply iy));refine nr 0 rfl rfl rfl rfl ?q1 ?q2 (vq _) rfl (fun v' bR => ?_)
  case q1 => exact iY (by show out.length + a'.length ≤ 1000000; omega)
  case q2 => show (out.length + a'.length) * 16 ≤ 140737488355328; omega
  (refine a7 ?_);refine Na (k := (eU (dL fx fy) a b).length) (zs := bP (eU (dL fx fy) a b)) 0 rfl rfl rfl rfl ?p1 ?p2 ?p3 ?p4 (vq _) rfl ?_
  case p1 => exact iY (by show (out.length + a'.length) + bT.length ≤ 1000000; omega)
  case p2 => show ((out.length + a'.length) + bT.length) * 16 ≤ 140737488355328; omega
  case p3 => show (out.length + a'.length) + bT.length = (eU (dL fx fy) a b).length; rw [HI]; omega
  case p4 => show (bP out ++ bP a') ++ bP bT = bP (eU (dL fx fy) a b); rw [← fP, Xp, abg, NN, nC, ← qM]
  (refine a7 ?_)
  ((refine bc rfl (bf rfl aN) ?_))
  exact ah.aQ.refl _
theorem acZ {fx fy : Bool} :
  ∀ (N : Nat) (l : List (Int × Int)), l.length ≤ N → N ≤ 100000 → aC ag 100 [gA l, vT fx fy] (gA (iL (dL fx fy) l)) := by
 intro N
 induction N with
 | zero =>
  intro l h1 h2;have lL := H9 (fx := fx) (fy := fy) (a := l) (b := []) (by omega) (by simp);rw [HJ] at lL
  have aT : aC ag 136 [gA l, I5, vT fx fy] (gA l) := Qe lL rfl rfl (by
   intro i x y aa ai
   match i with
   | 0 => cases aa; cases ai; exact .refl _
   | 1 => cases aa; cases ai; exact nil_le 2
   | 2 => cases aa; cases ai; exact .refl _
   | i + 3 => simp at aa)
  have q1 : (l.length : Int) < 2 := by omega
  have e : iL (dL fx fy) l = l := by rw [iL, dif_pos (by omega)]
  rw [e];clear lL;refine bm (f := 100) Tryz.func100 rfl rfl rfl rfl ?_;(refine bY ?_)
  ((refine bc rfl (bf rfl aN) ?_))
  exact ah.aQ.refl _
 | succ N b5 =>
  intro l h1 h2
  by_cases q : l.length < 2
  ·have lL := H9 (fx := fx) (fy := fy) (a := l) (b := []) (by omega) (by simp);rw [HJ] at lL
   have aT : aC ag 136 [gA l, I5, vT fx fy] (gA l) := Qe lL rfl rfl (by
    intro i x y aa ai
    match i with
    | 0 => cases aa; cases ai; exact .refl _
    | 1 => cases aa; cases ai; exact nil_le 2
    | 2 => cases aa; cases ai; exact .refl _
    | i + 3 => simp at aa)
   have q1 : (l.length : Int) < 2 := by omega
   have e : iL (dL fx fy) l = l := by rw [iL, dif_pos (by omega)]
   rw [e];clear lL b5;refine bm (f := 100) Tryz.func100 rfl rfl rfl rfl ?_;(refine bY ?_)
   ((refine bc rfl (bf rfl aN) ?_))
   exact ah.aQ.refl _
  ·have q1 : ¬ (l.length : Int) < 2 := by omega
   have e : iL (dL fx fy) l = eU (dL fx fy) (iL (dL fx fy) (l.take (l.length / 2))) (iL (dL fx fy) (l.drop (l.length / 2))) := by rw [iL, dif_neg q]
   have aT := b5 (l.take (l.length / 2)) (by simp; omega) (by omega);have bH := b5 (l.drop (l.length / 2)) (by simp; omega) (by omega);have l1 := Eg (dL fx fy) _ (l.take (l.length / 2)) (dJ _);have l2 := Eg (dL fx fy) _ (l.drop (l.length / 2)) (dJ _);have et := H9 (fx := fx) (fy := fy) (a := iL (dL fx fy) (l.take (l.length / 2))) (b := iL (dL fx fy) (l.drop (l.length / 2))) (by rw [l1]; simp; omega) (by rw [l2]; simp; omega);have aU : ((l.length : Int) / 2).toNat = l.length / 2 := by omega
   have aF : ((l.length : Int) / 2).toNat - 0 = (l.take (l.length / 2)).length := by rw [aU]; simp; omega
   have aM := ZM l (l.length / 2);have cg : ((l.length : Int)).toNat - ((l.length : Int) / 2).toNat = (l.drop (l.length / 2)).length := by rw [aU]; simp
   have dZ := ZK l (l.length / 2) (by omega);have kV : ((bP l).drop (((l.length : Int) / 2).toNat * 2)).take ((l.drop (l.length / 2)).length * 2) = bP (l.drop (l.length / 2)) := by rw [aU]; exact dZ
   rw [e];clear b5 l1 l2 e dZ aU;refine bm (f := 100) Tryz.func100 rfl rfl rfl rfl ?_;(repeat first | (with_reducible apply E7); rfl | (with_reducible apply Ka); (iterate 3 rfl) | (with_reducible apply E9); (iterate 4 rfl); (omega); (omega); (omega); (assumption); (assumption); rfl | (with_reducible apply Fa); (iterate 5 rfl); (omega); (omega); (omega); (omega); (assumption); (assumption); rfl | (with_reducible apply UB); (iterate 3 rfl); omega; omega; omega; rfl | refine E4 rfl rfl rfl rfl (by (first | exact aT | exact bH)) rfl ?_ | refine E5 rfl rfl rfl rfl rfl (by (exact et)) rfl ?_ | (with_reducible apply Kc); kernel_rfl | (with_reducible apply Ks); kernel_rfl; kernel_rfl; rfl | (with_reducible first | apply Ku | apply Kj | apply Kr | apply iy | apply Kt | apply Kv) | (with_reducible apply Km); rfl; (exact c3 (by omega)))
   ((refine bc rfl (bf rfl aN) ?_))
   exact ah.aQ.refl _
section
variable {P : Program} {a8 : eH} {s : aA} {ops : Array Oper} {dr : Option (List Nat)} {ty d : Nat} {pos : String} {after : Array Edge} {guard : Option (Nat × Bool)} {K : aA → Prop} {rest : List Oper}
theorem E8 {tt z n l lo hi : Nat} {v u : Value} {x y : Operand} [S : gS P tt z] (hw : want ops ⟨some d, .slice tt x (some y) none none, ty, pos, after, guard⟩ s = some true) (aa : s.look x = some (aR u)) (ai : s.look y = some (aH (l : Int))) (hu : iQ v z lo hi u) (hm : hi - lo = n) (h1 : l ≤ n) (hd : Nat.blt d s.n = true) (h : bb P ops K rest (s.put (some d) (aR (hc u z l n)))) : bb P ops K (⟨some d, .slice tt x (some y) none none, ty, pos, after, guard⟩ :: rest) s := by
 subst hm;obtain ⟨⟨A, c, rfl⟩, _⟩ := hu;refine fN (av := aR (hc (.slice A (hi - lo) c) z l (hi - lo))) hw ⟨fun _ _ h => (by cases h), fun q al => ?_, fun U ad W env he => ?_, fun j ae => absurd ae (iE _ j)⟩ hd h
 ·simp [Op.operands] at al;rcases al with rfl | rfl
  ·exact ⟨_, aa⟩
  ·exact ⟨_, ai⟩
 ·have ex : env x = .slice A (hi - lo) c := (he x (by simp [Op.operands]) _ aa).1;have jK : env y = .int .i64 (l : Int) := (he y (by simp [Op.operands]) _ ai).1;obtain ⟨bq, fl, hu, c8, hs⟩ := mj S.h;have eT : P.underlying tt = some (.slice (P.elem tt)) := by rw [jJ hu]; exact hu
  refine ⟨hc (.slice A (hi - lo) c) z l (hi - lo), ?_, rfl, rfl⟩;simp only [execOp, ex, gL, q5, jK, Sem.run_bind, run_sliceAt_slice W tt _ _ _ _ eT, run_slice_l W tt A (hi - lo) c eT .i64 l (by omega) (by omega), jJ hu, hB c8, Result.andThen_ok, hs, Sem.run_pure, kK, hc]
theorem UC {tt z n l lo hi : Nat} {v u : Value} {x y : Operand} [S : gS P tt z] (hw : want ops ⟨some d, .slice tt x none (some y) none, ty, pos, after, guard⟩ s = some true) (aa : s.look x = some (aR u)) (ai : s.look y = some (aH (l : Int))) (hu : iQ v z lo hi u) (hm : hi - lo = n) (h1 : l ≤ n) (hd : Nat.blt d s.n = true) (h : bb P ops K rest (s.put (some d) (aR (hc u z 0 l)))) : bb P ops K (⟨some d, .slice tt x none (some y) none, ty, pos, after, guard⟩ :: rest) s := by
 subst hm;obtain ⟨⟨A, c, rfl⟩, aj⟩ := hu
 have GB : l ≤ c := by
  rcases ue l with e | e
  ·omega
  ·have aU := aj (show lo < hi by omega);obtain ⟨g, n', c', g1, g2, g3⟩ := aU;have dZ : c = c' - lo := by injection g3
   clear g1 g3 aj;omega
 refine fN (av := aR (hc (.slice A (hi - lo) c) z 0 l)) hw ⟨fun _ _ h => (by cases h), fun q al => ?_, fun U ad W env he => ?_, fun j ae => absurd ae (iE _ j)⟩ hd h
 ·simp [Op.operands] at al;rcases al with rfl | rfl
  ·exact ⟨_, aa⟩
  ·exact ⟨_, ai⟩
 ·have ex : env x = .slice A (hi - lo) c := (he x (by simp [Op.operands]) _ aa).1;have jK : env y = .int .i64 (l : Int) := (he y (by simp [Op.operands]) _ ai).1;obtain ⟨bq, fl, hu, c8, hs⟩ := mj S.h;have eT : P.underlying tt = some (.slice (P.elem tt)) := by rw [jJ hu]; exact hu
  refine ⟨hc (.slice A (hi - lo) c) z 0 l, ?_, rfl, rfl⟩;simp only [execOp, ex, gL, q5, jK, Sem.run_bind, run_sliceAt_slice W tt _ _ _ _ eT, run_slice_h W tt A (hi - lo) c eT .i64 l (by omega) (by omega), jJ hu, hB c8, Result.andThen_ok, hs, Sem.run_pure, kK, hc]
end
theorem IU {A C JO : List AC} {n : Nat} (h : A.length = n) : eD (A ++ JO) n C = (A ++ C) ++ JO.drop C.length := by
 subst h;unfold eD;rw [List.take_left, List.drop_append, uf (by omega), List.nil_append, Nat.add_sub_cancel_left]
theorem NP {l : List ao} {n : Nat} (h : l.length = n) : (bP l).take (n * 2) = bP l := gn (by rw [n4]; omega)
theorem ND {l : List Int} {n : Nat} (h : l.length = n) : (cA l).take (n * 1) = cA l := gn (by simp [cA]; omega)
theorem NC (l : List Int) : (cA l).all AC.aZ = true := cB.2 fun y ai => by
 obtain ⟨x, _, rfl⟩ := iv.1 ai;rfl
theorem CM (l : List Int) : (cA l).length = l.length * 1 := by simp [cA]
abbrev D1 (LL : List (List ao)) : List AC := LL.map fun l => AC.p (cc 2 l.length (bP l))
abbrev Es (LL : List (List ao)) : ah := cy 1 LL.length (D1 LL)
theorem Rf {LL : List (List ao)} {j : Int} {i : Nat} {l : List ao} (ae : j = i) (h : LL[i]? = some l) : ((D1 LL).drop (j.toNat * 1)).take 1 = [.p (cc 2 l.length (bP l))] := by
 subst ae;have hi := (bM.1 h).1;rw [kK, Nat.mul_one, mN (by simpa [D1] using hi)];have : LL[i] = l := (bM.1 h).2;simp [D1, this]
def hY (LL : List (List ao)) (i : Nat) : List ao := (LL.take i).flatten
theorem Qu {LL : List (List ao)} {i : Nat} {l : List ao} (h : LL[i]? = some l) : hY LL (i + 1) = hY LL i ++ l := by
 unfold hY;rw [j3 (bM.1 h).1, (bM.1 h).2]; simp
theorem Qs {LL : List (List ao)} {i : Nat} (h : LL.length ≤ i) : hY LL i = LL.flatten := by unfold hY; rw [gn h]
theorem Qt (LL : List (List ao)) (i : Nat) : (hY LL i).length ≤ LL.flatten.length := by
 have : LL.flatten = hY LL i ++ (LL.drop i).flatten := by unfold hY; rw [← List.flatten_append, j2]
 rw [this, cJ]; omega
def SP (LL : List (List ao)) (n : Nat) (R : aI) (aL : List (Nat × ah)) (bd : List (Nat × List AC)) : Prop :=
 ∃ (i : Nat) (ii jY : Int), i ≤ LL.length ∧ n = LL.length - i ∧ ii = i ∧ jY = ((hY LL i).length : Nat) ∧ R = gj ∧ bd = [] ∧ aL = [(0, Es LL), (3, aH jY), (10, Es LL), (11, aH LL.length), (12, aH ii)]
def SQ (LL : List (List ao)) (N : Nat) (v : Value) (fu : List AC) (n : Nat) (R : aI) (aL : List (Nat × ah)) (bd : List (Nat × List AC)) : Prop :=
 ∃ (i : Nat) (ii : Int) (u : Value), i ≤ LL.length ∧ n = LL.length - i ∧ ii = i ∧ iQ v 2 (hY LL i).length N u ∧ R = br 0 ⟨36, 2, v, N, bP (hY LL i) ++ fu.drop ((hY LL i).length * 2)⟩ ∧ bd = [] ∧ aL = [(6, aR v), (7, aR u), (24, Es LL), (25, aH LL.length), (26, aH ii)]
theorem PW {LL : List (List ao)} (hV : LL.length ≤ 1100) (fi : LL.flatten.length ≤ 100000) : aC ag 106 [Es LL] (gA LL.flatten) := by
 refine bm (f := 106) Tryz.func106 rfl rfl rfl rfl ?_;refine ow ?_;(refine a7 ?_);refine jz 37 (SP LL) LL.length gj _ [] ⟨0, 0, 0, dC _, rfl, rfl, rfl, rfl, rfl, rfl⟩ (bB.refl _) rfl ⟨rfl, rfl, rfl, rfl, rfl, trivial⟩ trivial rfl ?_;rintro n R aL bd ⟨i, ii, jY, hi, rfl, gv, za, rfl, rfl, rfl⟩ c0;clear c0
 by_cases al : i < LL.length
 ·have q2 : ii < (LL.length : Int) := by omega
  have bO : 0 ≤ ii := by omega
  obtain ⟨l, g1⟩ : ∃ l, LL[i]? = some l := ⟨_, bN al⟩;have jE := Rf gv g1;have h1 := Qu g1;have h2 := Qt LL (i + 1);have an : (hY LL (i + 1)).length = (hY LL i).length + l.length := by rw [h1, cJ]
  (refine a7 ?_);exact ⟨LL.length - (i + 1), gj, _, [], by omega, ⟨i + 1, ii + 1, _, by omega, rfl, by omega, by omega, rfl, rfl, rfl⟩, bB.refl _, rfl, ⟨rfl, rfl, rfl, rfl, rfl, trivial⟩, trivial, rfl⟩
 ·have q2 : ¬ ii < (LL.length : Int) := by omega
  rw [Qs (by omega)] at za;subst za;generalize yN : LL.flatten.length = N at *;(refine a7 ?_);refine zi (l := N) (c' := N) 0 rfl rfl rfl rfl (dJ _) rfl rfl ?h2 (iY (by omega)) rfl (fun v hv => ?_)
  case h2 => show 16 * N ≤ 281474976710656; omega
  generalize dN : h5 N 2 _ = fu;have Cc : fu.length = N * 2 := by rw [← dN]; simp [h5]
  clear dN;(refine a7 ?_);refine IE 0 (r := ⟨36, 2, v, N, fu⟩) rfl (fun eZ c hI ep iA de hlen => ?_);have lZ : v = .slice eZ N c := hI;have r7 : iQ v 2 0 N v := by rw [lZ]; exact iQ.all 2 ep de
  clear hI ep iA de hlen;refine jz 37 (SQ LL N v fu) LL.length (br 0 ⟨36, 2, v, N, fu⟩) _ [] ⟨0, 0, v, dC _, rfl, rfl, r7, rfl, rfl, rfl⟩ (jx _ _ _) rfl ⟨rfl, rfl, rfl, rfl, rfl, trivial⟩ trivial rfl ?_;clear al q2 r7 gv lZ;rintro n R aL bd ⟨i, ii, u, hi, rfl, gv, hu, rfl, rfl, rfl⟩ c0;clear c0
  by_cases al : i < LL.length
  ·have q2 : ii < (LL.length : Int) := by omega
   have bO : 0 ≤ ii := by omega
   obtain ⟨l, g1⟩ : ∃ l, LL[i]? = some l := ⟨_, bN al⟩;have jE := Rf gv g1;have h1 := Qu g1;have h2 := Qt LL (i + 1);have an : (hY LL (i + 1)).length = (hY LL i).length + l.length := by rw [h1, cJ]
   rw [yN] at h2;have c1 := vq l;have bl : Nat.min l.length (N - (hY LL i).length) = l.length := o8 (by omega);obtain ⟨m, hm⟩ : ∃ m, N - (hY LL i).length = m := ⟨_, rfl⟩;have b1 : (hY LL i).length ≤ N := by omega
   have b2 : l.length ≤ m := by omega
   have s1 : eD (bP (hY LL i) ++ fu.drop ((hY LL i).length * 2)) ((hY LL i).length * 2) ((bP l).take (l.length * 2)) = bP (hY LL (i + 1)) ++ fu.drop ((hY LL (i + 1)).length * 2) := by
    rw [NP rfl, IU (n4 _), ← qM, ← h1, List.drop_drop, n4];congr 2;omega
   have eT := hu.sl hm b2 b1;rw [← an] at eT;(repeat first | refine c5 ?_ | (with_reducible apply jo); rfl; (repeat first | refine jC ?_ | (with_reducible apply E8); (iterate 3 rfl); assumption; (assumption); (assumption); rfl); (with_reducible apply iy) | (with_reducible apply Nb 0); (iterate 3 rfl); assumption; rfl; rfl; rfl; (assumption); (exact dJ _); (assumption); rfl; assumption; assumption; rfl);exact ⟨LL.length - (i + 1), _, _, [], by omega, ⟨i + 1, ii + 1, _, by omega, rfl, by omega, eT, rfl, rfl, rfl⟩, jx _ _ _, rfl, ⟨rfl, rfl, rfl, rfl, rfl, trivial⟩, trivial, rfl⟩
  ·have q2 : ¬ ii < (LL.length : Int) := by omega
   have cX : bP (hY LL i) ++ fu.drop ((hY LL i).length * 2) = bP LL.flatten := by
    rw [Qs (by omega), uf (by omega), nC]
   rw [cX];refine xN 0 6 ⟨36, 2, v, N, bP LL.flatten⟩ rfl rfl ?_;rw [← yN];(refine a7 ?_)
   ((refine bc rfl (bf rfl aN) ?_))
   exact ah.aQ.refl _
abbrev D2 (LL : List (List Int)) : List AC := LL.map fun l => AC.p (cc 1 l.length (cA l))
abbrev Ep (LL : List (List Int)) : ah := cy 1 LL.length (D2 LL)
theorem Rg {LL : List (List Int)} {j : Int} {i : Nat} {l : List Int} (ae : j = i) (h : LL[i]? = some l) : ((D2 LL).drop (j.toNat * 1)).take 1 = [.p (cc 1 l.length (cA l))] := by
 subst ae;have hi := (bM.1 h).1;rw [kK, Nat.mul_one, mN (by simpa [D2] using hi)];have : LL[i] = l := (bM.1 h).2;simp [D2, this]
def hX (LL : List (List Int)) (i : Nat) : List Int := (LL.take i).flatten
theorem Qr {LL : List (List Int)} {i : Nat} {l : List Int} (h : LL[i]? = some l) : hX LL (i + 1) = hX LL i ++ l := by
 unfold hX;rw [j3 (bM.1 h).1, (bM.1 h).2]; simp
theorem Qp {LL : List (List Int)} {i : Nat} (h : LL.length ≤ i) : hX LL i = LL.flatten := by unfold hX; rw [gn h]
theorem Qq (LL : List (List Int)) (i : Nat) : (hX LL i).length ≤ LL.flatten.length := by
 have : LL.flatten = hX LL i ++ (LL.drop i).flatten := by unfold hX; rw [← List.flatten_append, j2]
 rw [this, cJ]; omega
def SN (LL : List (List Int)) (n : Nat) (R : aI) (aL : List (Nat × ah)) (bd : List (Nat × List AC)) : Prop :=
 ∃ (i : Nat) (ii jY : Int), i ≤ LL.length ∧ n = LL.length - i ∧ ii = i ∧ jY = ((hX LL i).length : Nat) ∧ R = gj ∧ bd = [] ∧ aL = [(0, Ep LL), (3, aH jY), (10, Ep LL), (11, aH LL.length), (12, aH ii)]
def SO (LL : List (List Int)) (N : Nat) (v : Value) (fu : List AC) (n : Nat) (R : aI) (aL : List (Nat × ah)) (bd : List (Nat × List AC)) : Prop :=
 ∃ (i : Nat) (ii : Int) (u : Value), i ≤ LL.length ∧ n = LL.length - i ∧ ii = i ∧ iQ v 1 (hX LL i).length N u ∧ R = br 0 ⟨3, 1, v, N, cA (hX LL i) ++ fu.drop ((hX LL i).length * 1)⟩ ∧ bd = [] ∧ aL = [(6, aR v), (7, aR u), (24, Ep LL), (25, aH LL.length), (26, aH ii)]
theorem PV {LL : List (List Int)} (hV : LL.length ≤ 1100) (fi : LL.flatten.length ≤ 100000) : aC ag 107 [Ep LL] (og LL.flatten) := by
 refine bm (f := 107) Tryz.func107 rfl rfl rfl rfl ?_;refine ow ?_;(refine a7 ?_);refine jz 37 (SN LL) LL.length gj _ [] ⟨0, 0, 0, dC _, rfl, rfl, rfl, rfl, rfl, rfl⟩ (bB.refl _) rfl ⟨rfl, rfl, rfl, rfl, rfl, trivial⟩ trivial rfl ?_;rintro n R aL bd ⟨i, ii, jY, hi, rfl, gv, za, rfl, rfl, rfl⟩ c0;clear c0
 by_cases al : i < LL.length
 ·have q2 : ii < (LL.length : Int) := by omega
  have bO : 0 ≤ ii := by omega
  obtain ⟨l, g1⟩ : ∃ l, LL[i]? = some l := ⟨_, bN al⟩;have jE := Rg gv g1;have h1 := Qr g1;have h2 := Qq LL (i + 1);have an : (hX LL (i + 1)).length = (hX LL i).length + l.length := by rw [h1, cJ]
  (refine a7 ?_);exact ⟨LL.length - (i + 1), gj, _, [], by omega, ⟨i + 1, ii + 1, _, by omega, rfl, by omega, by omega, rfl, rfl, rfl⟩, bB.refl _, rfl, ⟨rfl, rfl, rfl, rfl, rfl, trivial⟩, trivial, rfl⟩
 ·have q2 : ¬ ii < (LL.length : Int) := by omega
  rw [Qp (by omega)] at za;subst za;generalize yN : LL.flatten.length = N at *;(refine a7 ?_);refine zi (l := N) (c' := N) 0 rfl rfl rfl rfl (dJ _) rfl rfl ?h2 (iY (by omega)) rfl (fun v hv => ?_)
  case h2 => show 8 * N ≤ 281474976710656; omega
  generalize dN : h5 N 1 _ = fu;have Cc : fu.length = N * 1 := by rw [← dN]; simp [h5]
  clear dN;(refine a7 ?_);refine IE 0 (r := ⟨3, 1, v, N, fu⟩) rfl (fun eZ c hI ep iA de hlen => ?_);have lZ : v = .slice eZ N c := hI;have r7 : iQ v 1 0 N v := by rw [lZ]; exact iQ.all 1 ep de
  clear hI ep iA de hlen;refine jz 37 (SO LL N v fu) LL.length (br 0 ⟨3, 1, v, N, fu⟩) _ [] ⟨0, 0, v, dC _, rfl, rfl, r7, rfl, rfl, rfl⟩ (jx _ _ _) rfl ⟨rfl, rfl, rfl, rfl, rfl, trivial⟩ trivial rfl ?_;clear al q2 r7 gv lZ;rintro n R aL bd ⟨i, ii, u, hi, rfl, gv, hu, rfl, rfl, rfl⟩ c0;clear c0
  by_cases al : i < LL.length
  ·have q2 : ii < (LL.length : Int) := by omega
   have bO : 0 ≤ ii := by omega
   obtain ⟨l, g1⟩ : ∃ l, LL[i]? = some l := ⟨_, bN al⟩;have jE := Rg gv g1;have h1 := Qr g1;have h2 := Qq LL (i + 1);have an : (hX LL (i + 1)).length = (hX LL i).length + l.length := by rw [h1, cJ]
   rw [yN] at h2;have c1 := NC l;have bl : Nat.min l.length (N - (hX LL i).length) = l.length := o8 (by omega);obtain ⟨m, hm⟩ : ∃ m, N - (hX LL i).length = m := ⟨_, rfl⟩;have b1 : (hX LL i).length ≤ N := by omega
   have b2 : l.length ≤ m := by omega
   have s1 : eD (cA (hX LL i) ++ fu.drop ((hX LL i).length * 1)) ((hX LL i).length * 1) ((cA l).take (l.length * 1)) = cA (hX LL (i + 1)) ++ fu.drop ((hX LL (i + 1)).length * 1) := by
    rw [ND rfl, IU (CM _), ← CK, ← h1, List.drop_drop, CM];congr 2;omega
   have eT := hu.sl hm b2 b1;rw [← an] at eT;(repeat first | refine c5 ?_ | (with_reducible apply jo); rfl; (repeat first | refine jC ?_ | (with_reducible apply E8); (iterate 3 rfl); assumption; (assumption); (assumption); rfl); (with_reducible apply iy) | (with_reducible apply Nb 0); (iterate 3 rfl); assumption; rfl; rfl; rfl; (assumption); (exact dJ _); (assumption); rfl; assumption; assumption; rfl);exact ⟨LL.length - (i + 1), _, _, [], by omega, ⟨i + 1, ii + 1, _, by omega, rfl, by omega, eT, rfl, rfl, rfl⟩, jx _ _ _, rfl, ⟨rfl, rfl, rfl, rfl, rfl, trivial⟩, trivial, rfl⟩
  ·have q2 : ¬ ii < (LL.length : Int) := by omega
   have cX : cA (hX LL i) ++ fu.drop ((hX LL i).length * 1) = cA LL.flatten := by
    rw [Qp (by omega), uf (by omega), nC]
   rw [cX];refine xN 0 6 ⟨3, 1, v, N, cA LL.flatten⟩ rfl rfl ?_;rw [← yN];(refine a7 ?_)
   ((refine bc rfl (bf rfl aN) ?_))
   exact ah.aQ.refl _
theorem acM {x y : Nat} (aa : x < 9223372036854775808) (ai : y < 9223372036854775808) (h : x * y < 9223372036854775808) : aC ag 179 [aR (.int .u64 (x : Nat)), aR (.int .u64 (y : Nat))] (.cr [.one (.c (.int .u64 0)), .one (.c (.int .u64 ((x * y : Nat) : Int)))]) := by
 refine hN [.int .u64 (x : Nat), .int .u64 (y : Nat)] (.tuple #[.int .u64 0, .int .u64 ((x * y : Nat) : Int)]) rfl rfl rfl rfl rfl fun W => ?_;refine (Tryz.bits_Mul64 x y (by omega) (by omega) W).mono ?_;rintro e w' ⟨rfl, rfl⟩;have aF : x * y / 18446744073709551616 = 0 := Nat.div_eq_of_lt (by omega);have aM : x * y % 18446744073709551616 = x * y := Nat.mod_eq_of_lt (by omega);rw [aF, aM];exact ⟨rfl, Below.refl _ _⟩
theorem acK {y : Nat} (ai : y < 9223372036854775808) : aC ag 157 [aR (.int .u64 1), aR (.int .u64 (y : Nat))] (.cr [.one (.c (.int .u64 0)), .one (.c (.int .u64 (y : Nat)))]) := by
 have aT := acM (x := 1) (y := y) (by decide) ai (by omega);rw [Nat.one_mul] at aT
 replace aT : aC ag 179 [aR (.int .u64 1), aR (.int .u64 (y : Nat))] (.cr [.one (.c (.int .u64 0)), .one (.c (.int .u64 (y : Nat)))]) := aT
 refine bm (f := 157) Tryz.func157 rfl rfl rfl rfl ?_;(refine bY ?_)
 ((refine bc rfl (bf rfl (bf rfl aN)) ?_))
 exact ah.aQ.refl _
def Tf (d : Int) (m : Nat) (v : Value) (fu : List AC) (n : Nat) (R : aI) (aL : List (Nat × ah)) (bd : List (Nat × List AC)) : Prop :=
 ∃ (k : Nat) (ef : Int), 1 ≤ k ∧ k ≤ m ∧ n = m - k ∧ ef = k ∧ R = br 0 ⟨3, 1, v, m, cA (List.replicate k d) ++ fu.drop k⟩ ∧ bd = [] ∧ aL = [(7, aR v), (8, aH ef)]
theorem acR {d : Int} {m : Nat} (w9 : 1 ≤ m) (hm : m ≤ 100000) : aC ag 133 [og [d], aH m] (og (List.replicate m d)) := by
 have Ju := acK (y := m) (by omega);have w1 : IntKind.u64.wrap (m : Int) = m := by rw [IntKind.wrap_u64]; omega
 have w2 : IntKind.i64.wrap (m : Int) = m := n2 (by omega);have di : ¬ (m : Int) < 0 := by omega
 have q1 : ¬ (m : Int) > 9223372036854775807 := by omega
 have bl : Nat.min 1 m = 1 := o8 w9;refine bm (f := 133) Tryz.func133 rfl rfl rfl rfl ?_;refine ow ?_;(refine mU ?_);refine zi (l := m) (c' := m) 0 rfl rfl rfl rfl (dJ _) rfl rfl ?h2 (iY (by omega)) rfl (fun v hv => ?_)
 case h2 => show 8 * m ≤ 281474976710656; omega
 generalize dN : h5 m 1 _ = fu;have Cc : fu.length = m := by rw [← dN]; simp [h5]
 have Xo : fu.all AC.aZ = true := by
  rw [← dN];refine cB.2 fun y ai => ?_;simp only [h5, iv] at ai;obtain ⟨j, _, rfl⟩ := ai;rfl
 clear dN
 have s1 : eD fu (0 * 1) ((cA [d]).take (1 * 1)) = cA (List.replicate 1 d) ++ fu.drop 1 := by
  unfold eD; simp [cA]
 (repeat first | refine c5 ?_ | (with_reducible apply YR 0); (iterate 6 rfl); (rfl); rfl; (assumption); (assumption); rfl);refine IE 0 (r := ⟨3, 1, v, m, cA (List.replicate 1 d) ++ fu.drop 1⟩) rfl (fun eZ c hI ep iA de hlen => ?_);have lZ : v = .slice eZ m c := hI;have hu : iQ v 1 0 m v := by rw [lZ]; exact iQ.all 1 ep de
 clear hI ep iA de hlen lZ;refine jz 48 (Tf d m v fu) (m - 1) (br 0 ⟨3, 1, v, m, cA (List.replicate 1 d) ++ fu.drop 1⟩) _ [] ⟨1, 1, dJ _, w9, rfl, rfl, rfl, rfl, rfl⟩ (jx _ _ _) rfl ⟨rfl, rfl, trivial⟩ trivial rfl ?_;clear Ju w1 w2 di q1 bl s1;rintro n R aL bd ⟨k, ef, qG, af, rfl, rfl, rfl, rfl, rfl⟩ c0;clear c0
 by_cases al : k < m
 ·have q2 : (k : Int) < (m : Int) := by omega
  obtain ⟨x, aa⟩ : ∃ x, Nat.min k (m - k) = x := ⟨_, rfl⟩;have aiz : 1 ≤ x := by rw [← aa]; exact Nat.le_min.2 ⟨qG, by omega⟩
  have Zd : x ≤ k := by rw [← aa]; exact Nat.min_le_left _ _
  have aiA : x ≤ m - k := by rw [← aa]; exact Nat.min_le_right _ _
  have m0 : m - 0 = m := Nat.sub_zero m;have b3 := hu.sl m0 af (dC _);have b7 := hu.agd (k := k) (by omega);rw [jd] at b3 b7;have cX : 0 + k = k := jd k
  have pw : (cA (List.replicate k d) ++ fu.drop k).all AC.aZ = true := by
   rw [List.all_append, NC, p0];exact cB.2 fun y ai => cB.1 Xo y (mO ai)
  have s1 : eD (cA (List.replicate k d) ++ fu.drop k) (k * 1) ((((cA (List.replicate k d) ++ fu.drop k).drop (0 * 1)).take (k * 1)).take (x * 1)) = cA (List.replicate (k + x) d) ++ fu.drop (k + x) := by
   have lk : (cA (List.replicate k d)).length = k * 1 := by simp [cA]
   rw [Nat.zero_mul, List.drop_zero, ← lk, List.take_left, IU rfl]
   have cg : (cA (List.replicate k d)).take (x * 1) = cA (List.replicate x d) := by
    simp only [cA, List.map_replicate, Nat.mul_one, List.take_replicate];rw [o8 Zd]
   rw [cg, List.drop_drop, ← CK, List.replicate_append_replicate, show (cA (List.replicate x d)).length = x by simp [cA]]
  have w1 : IntKind.i64.wrap ((k : Int) + (x : Int)) = (k : Int) + (x : Int) := n2 (by omega);(repeat first | (with_reducible apply dQ (id := 9) [0,1,2,3,4,5,6,7,8,9]); kernel_rfl; kernel_rfl; rfl | refine c5 ?_ | (with_reducible apply jo); rfl; (repeat first | refine jC ?_ | (with_reducible apply E8); (iterate 3 rfl); assumption; (assumption); (assumption); rfl | (with_reducible apply UC); (iterate 3 rfl); assumption; (assumption); (assumption); rfl); (with_reducible apply iy) | (with_reducible apply nZ 0); (iterate 4 rfl); kernel_rfl; rfl | (with_reducible apply YS 0); (iterate 3 rfl); assumption; rfl; assumption; assumption; assumption; rfl; rfl; (assumption); (exact dJ _); (assumption); rfl; assumption; assumption; rfl);exact ⟨m - (k + x), _, _, [], by omega, ⟨k + x, (k : Int) + (x : Int), by omega, by omega, rfl, by omega, rfl, rfl, rfl⟩, jx _ _ _, rfl, ⟨rfl, rfl, trivial⟩, trivial, rfl⟩
 ·have q2 : ¬ (k : Int) < (m : Int) := by omega
  have cX : cA (List.replicate k d) ++ fu.drop k = cA (List.replicate m d) := by
   rw [show k = m by omega, uf (by omega), nC]
  rw [cX];refine xN 0 7 ⟨3, 1, v, m, cA (List.replicate m d)⟩ rfl rfl ?_
  have el : cy 1 m (cA (List.replicate m d)) = og (List.replicate m d) := by
   show cy 1 m _ = cy 1 (List.replicate m d).length _;rw [List.length_replicate]
  rw [← el];(refine a7 ?_)
  ((refine bc rfl (bf rfl aN) ?_))
  exact ah.aQ.refl _
end Go.Proofs.YtbcecodakfejaaaGreat
namespace Go.Proofs.YtbcecodakfejaaaGreat
def vA (p q : ao) : List ao := if p = q then [p] else [p, q]
def vz (p q : ao) : List Int := if p = q then [] else [1]
end Go.Proofs.YtbcecodakfejaaaGreat
namespace Go.Proofs.YtbcecodakfejaaaGreat
open Go.RowKit
def py (D : List Int) : Int := D.foldl max 0
def Sn : Prop := ∀ x y z w : Int, aC ag 129 [aK x y, aK z w] (mT (vA (x, y) (z, w)) (vz (x, y) (z, w)))
def Ss : Prop := ∀ (V : List ao) (D : List Int) (j : Nat) (l : List ao), V.length = D.length + 1 → V.length ≤ 1100 → l.length ≤ 1100 → j < D.length → (∀ d ∈ D, 1 ≤ d ∧ d ≤ 1048576) →
 aC ag 99 [mT V D, aH j, gA l] (.cr [.agg (vu (if l.isEmpty then [] else Ef V j l) (if l.isEmpty then [] else Av D j l.length)), .one (.c (.bool (!l.isEmpty)))])
def Sk : Prop := ∀ (V : List ao) (D : List Int), V.length ≤ 1100 → D.length ≤ 1100 → aC ag 40 [mT V D] (aH (py D))
def Sr : Prop := ∀ (V W : List ao) (D E : List Int), V.length ≤ 1100 → D.length ≤ 1100 → W.length ≤ 1100 → E.length ≤ 1100 → aC ag 61 [mT V D, mT W E] (bk (decide (V = W) && decide (D = E)))
def Sj : Prop := ∀ (V : List ao) (D : List Int), V.length ≤ 1100 → D.length ≤ 1100 → aC ag 64 [mT V D] (mT V D)
theorem Vl : ah.aQ (.w (.agg [.c (.slice none 0 0), .c (.slice none 0 0)])) (mT [] []) := JU rfl fun j x y aa ai => by
 match j with
 | 0 => cases aa; cases ai; exact .inr ⟨rfl, 2, rfl⟩
 | 1 => cases aa; cases ai; exact .inr ⟨rfl, 1, rfl⟩
 | j + 2 => simp at aa
theorem adx {V l : List ao} {f t : Int} (ar : 0 ≤ f ∧ f ≤ V.length) (aB : 0 ≤ t ∧ t ≤ V.length) (nf : V.length ≤ 10000) (ak : l.length ≤ 10000) : aC ag 134 [gA V, aH f, aH t, gA l] (gA (V.take f.toNat ++ l ++ V.drop t.toNat)) := by
 have J := PW (LL := [V.take f.toNat, l, V.drop t.toNat]) (by show 3 ≤ 1100; decide) (by simp [cJ]; omega);have cX : [V.take f.toNat, l, V.drop t.toNat].flatten = V.take f.toNat ++ l ++ V.drop t.toNat := by simp
 rw [cX] at J
 replace J : aC ag 106 [cy 1 3 [.p (cc 2 (V.take f.toNat).length (bP (V.take f.toNat))), .p (cc 2 l.length (bP l)), .p (cc 2 (V.drop t.toNat).length (bP (V.drop t.toNat)))]] (gA (V.take f.toNat ++ l ++ V.drop t.toNat)) := J
 have a1 : 0 ≤ f := ar.1;have a2 : f ≤ f := n7 f;have a3 : f ≤ V.length := ar.2;have a4 : 0 ≤ t := aB.1;have a5 : t ≤ V.length := aB.2;have Tv : (V.length : Int) ≤ V.length := n7 _;have m1 : f.toNat - 0 = (V.take f.toNat).length := by rw [dK]; omega
 have aF : ((bP V).drop (0 * 2)).take ((V.take f.toNat).length * 2) = bP (V.take f.toNat) := by
  have h : bP V = bP (V.take f.toNat) ++ bP (V.drop f.toNat) := by rw [← qM, j2]
  rw [h, Nat.zero_mul, List.drop_zero, ← n4, List.take_left]
 have m2 : (V.length : Int).toNat - t.toNat = (V.drop t.toNat).length := by rw [h3]; omega
 have aM : ((bP V).drop (t.toNat * 2)).take ((V.drop t.toNat).length * 2) = bP (V.drop t.toNat) := by
  have h : bP V = bP (V.take t.toNat) ++ bP (V.drop t.toNat) := by rw [← qM, j2]
  rw [h, show t.toNat * 2 = (bP (V.take t.toNat)).length by rw [n4, dK]; omega, List.drop_left, NP rfl]
 refine bm (f := 134) Tryz.func134 rfl rfl rfl rfl ?_;(repeat first | refine ez ?_ | refine jB ?_ | (with_reducible apply E9); (iterate 4 rfl); (assumption); (assumption); (assumption); (assumption); (assumption); rfl | (with_reducible apply Fa); (iterate 5 rfl); (assumption); (assumption); (assumption); (assumption); (assumption); (assumption); rfl)
 ((refine bc rfl (bf rfl aN) ?_))
 exact ah.aQ.refl _
theorem adw {V l : List Int} {f t : Int} (ar : 0 ≤ f ∧ f ≤ V.length) (aB : 0 ≤ t ∧ t ≤ V.length) (nf : V.length ≤ 10000) (ak : l.length ≤ 10000) : aC ag 135 [og V, aH f, aH t, og l] (og (V.take f.toNat ++ l ++ V.drop t.toNat)) := by
 have J := PV (LL := [V.take f.toNat, l, V.drop t.toNat]) (by show 3 ≤ 1100; decide) (by simp [cJ]; omega);have cX : [V.take f.toNat, l, V.drop t.toNat].flatten = V.take f.toNat ++ l ++ V.drop t.toNat := by simp
 rw [cX] at J
 replace J : aC ag 107 [cy 1 3 [.p (cc 1 (V.take f.toNat).length (cA (V.take f.toNat))), .p (cc 1 l.length (cA l)), .p (cc 1 (V.drop t.toNat).length (cA (V.drop t.toNat)))]] (og (V.take f.toNat ++ l ++ V.drop t.toNat)) := J
 have a1 : 0 ≤ f := ar.1;have a2 : f ≤ f := n7 f;have a3 : f ≤ V.length := ar.2;have a4 : 0 ≤ t := aB.1;have a5 : t ≤ V.length := aB.2;have Tv : (V.length : Int) ≤ V.length := n7 _;have m1 : f.toNat - 0 = (V.take f.toNat).length := by rw [dK]; omega
 have aF : ((cA V).drop (0 * 1)).take ((V.take f.toNat).length * 1) = cA (V.take f.toNat) := by
  have h : cA V = cA (V.take f.toNat) ++ cA (V.drop f.toNat) := by rw [← CK, j2]
  rw [h, Nat.zero_mul, List.drop_zero, ← CM, List.take_left]
 have m2 : (V.length : Int).toNat - t.toNat = (V.drop t.toNat).length := by rw [h3]; omega
 have aM : ((cA V).drop (t.toNat * 1)).take ((V.drop t.toNat).length * 1) = cA (V.drop t.toNat) := by
  have h : cA V = cA (V.take t.toNat) ++ cA (V.drop t.toNat) := by rw [← CK, j2]
  rw [h, show t.toNat * 1 = (cA (V.take t.toNat)).length by rw [CM, dK]; omega, List.drop_left, ND rfl]
 refine bm (f := 135) Tryz.func135 rfl rfl rfl rfl ?_;(repeat first | refine ez ?_ | refine jB ?_ | (with_reducible apply E9); (iterate 4 rfl); (assumption); (assumption); (assumption); (assumption); (assumption); rfl | (with_reducible apply Fa); (iterate 5 rfl); (assumption); (assumption); (assumption); (assumption); (assumption); (assumption); rfl)
 ((refine bc rfl (bf rfl aN) ?_))
 exact ah.aQ.refl _
theorem ZR : Sj := by
 intro V D ab hd;have EH := PW (LL := [V]) (by show 1 ≤ 1100; decide) (by simp; omega);have EI := PV (LL := [D]) (by show 1 ≤ 1100; decide) (by simp; omega);rw [show [V].flatten = V by simp] at EH;rw [show [D].flatten = D by simp] at EI
 replace EH : aC ag 106 [cy 1 1 [.p (cc 2 V.length (bP V))]] (gA V) := EH
 replace EI : aC ag 107 [cy 1 1 [.p (cc 1 D.length (cA D))]] (og D) := EI
 refine bm (f := 64) Tryz.func64 rfl rfl rfl rfl ?_;(refine bY ?_)
 ((refine bc rfl (cu rfl rfl rfl aN) ?_))
 exact ah.aQ.refl _
theorem agO {xs aS : List bz} (ak : xs.length = aS.length) (h : ∀ (i : Nat) x y, xs[i]? = some x → aS[i]? = some y → ah.aQ (.w x) (.w y)) : ah.aQ (.cr xs) (.cr aS) := fun U ad W v hv => by
 obtain ⟨vs, e, ax, aU⟩ := hv
 exact ⟨vs, e, by rw [← ak]; exact ax, fun i y u ai hu => by
  have hi : i < xs.length := by rw [ak]; exact (bM.1 ai).1
  exact h i _ y (bN hi) ai U ad W u (aU i _ u (bN hi) hu)⟩
theorem WD : ah.aQ (.cr [.agg [.c (.slice none 0 0), .c (.slice none 0 0)], .one (.c (.bool false))]) (.cr [.agg (vu [] []), .one (.c (.bool false))]) := agO rfl fun i x y aa ai => by
 match i with
 | 0 => cases aa; cases ai; exact Vl
 | 1 => cases aa; cases ai; exact ah.aQ.refl _
 | i + 2 => simp at aa
theorem agp {V l : List ao} {D : List Int} {j : Nat} (ab : V.length ≤ 1100) (hd : D.length ≤ 1100) (ae : j ≤ 1100)
  (cs : (j : Int) ≥ D.length ∨ (¬ (j : Int) ≥ D.length ∧ (j : Int) ≥ (V.length : Int) - 1) ∨ (¬ (j : Int) ≥ D.length ∧ ¬ (j : Int) ≥ (V.length : Int) - 1 ∧ (l.length : Int) = 0)) : aC ag 99 [mT V D, aH j, gA l] (.cr [.agg (vu [] []), .one (.c (.bool false))]) := by
 have di : ¬ (j : Int) < 0 := by omega
 generalize (j : Int) = ee at *;rcases cs with q1 | ⟨q1, q2⟩ | ⟨q1, q2, bO⟩
 all_goals
  refine bm (f := 99) Tryz.func99 rfl rfl rfl rfl ?_;(repeat first | refine ez ?_ | (with_reducible apply cW (c := true)); rfl; rfl; (exact cw (by omega)) | (with_reducible apply cW (c := false)); rfl; rfl; (exact c3 (by omega)))
  ((refine bc rfl (cu rfl rfl rfl (bf rfl aN)) ?_))
  exact WD
theorem agq {V l : List ao} {D : List Int} {j : Nat} {ee oz : Int} (nl : ee = j) (qD : D[j]? = some oz) (MK : 1 ≤ oz ∧ oz ≤ 1048576) (ak : 0 < l.length) (eK : V.length = D.length + 1) (ab : V.length ≤ 1100) (MH : l.length ≤ 1100) : aC ag 99 [mT V D, aH ee, gA l] (.cr [.agg (vu (Ef V j l) (Av D j l.length)), .one (.c (.bool true))]) := by
 have Co : j < D.length := (bM.1 qD).1;have di : ¬ ee < 0 := by omega
 have q1 : ¬ ee ≥ D.length := by omega
 have q2 : ¬ ee ≥ (V.length : Int) - 1 := by omega
 have bO : ¬ (l.length : Int) = 0 := by omega
 have dj : ee < (D.length : Int) := by omega
 have jE := CL nl qD;have gq := acR (d := oz + 1) (m := l.length + 1) (by omega) (by omega);have fj := adx (V := V) (l := l) (f := ee + 1) (t := ee + 1) (by omega) (by omega) (by omega) (by omega);have EM := adw (V := D) (l := List.replicate (l.length + 1) (oz + 1)) (f := ee) (t := ee + 1) (by omega) (by omega) (by omega) (by rw [List.length_replicate]; omega);have aF : (ee + 1).toNat = j + 1 := by omega
 have aM : ee.toNat = j := by omega
 have cg : D.getD j 0 = oz := by simp [List.getD, qD]
 have dZ : D.take j ++ List.replicate (l.length + 1) (oz + 1) ++ D.drop (j + 1) = Av D j l.length := by unfold Av; rw [cg]
 have kV : V.take (j + 1) ++ l ++ V.drop (j + 1) = Ef V j l := rfl;rw [aF, kV] at fj;rw [aF, aM, dZ] at EM;have rN : (((l.length + 1 : Nat) : Int)) = (l.length : Int) + 1 := by omega
 rw [rN] at gq;clear aF aM cg dZ kV rN;generalize Ef V j l = JM at *;generalize Av D j l.length = v7 at *;generalize List.replicate (l.length + 1) (oz + 1) = T at *;refine bm (f := 99) Tryz.func99 rfl rfl rfl rfl ?_;(repeat first | refine ez ?_ | refine jB ?_ | refine e9 fj ?_ | (with_reducible apply cW (c := false)); rfl; rfl; (exact c3 (by omega)))
 ((refine bc rfl (cu rfl rfl rfl (bf rfl aN)) ?_))
 exact ah.aQ.refl _
theorem Z1 : Ss := by
 intro V D j l nf ab MH ae yW;cases ak : l with
 | nil => exact agp (V := V) (D := D) (l := []) (j := j) (by omega) (by omega) (by omega) (.inr (.inr ⟨by omega, by omega, rfl⟩))
 | cons p m =>
  rw [← ak];have e : l.isEmpty = false := by rw [ak]; rfl
  rw [e];have Gz : 0 < l.length := by rw [ak]; exact jw _
  obtain ⟨oz, qD⟩ : ∃ oz, D[j]? = some oz := ⟨_, bN ae⟩;exact agq (V := V) (l := l) (D := D) (j := j) rfl qD (yW oz (c7 qD)) Gz nf ab MH
theorem Vm (V : List ao) : ah.aQ (.w (.agg [.p (cc 2 V.length (bP V)), .c (.slice none 0 0)])) (mT V []) := JU rfl fun j x y aa ai => by
 match j with
 | 0 => cases aa; cases ai; exact .inl rfl
 | 1 => cases aa; cases ai; exact .inr ⟨rfl, 1, rfl⟩
 | j + 2 => simp at aa
theorem ZW : Sn := by
 intro x y z w;cases al : b8 x y z w with
 | true =>
  obtain ⟨rfl, rfl⟩ := mz.1 al;rw [show vA (x, y) (x, y) = [(x, y)] from if_pos rfl, show vz (x, y) (x, y) = [] from if_pos rfl];refine bm (f := 129) Tryz.func129 rfl rfl rfl rfl ?_;(refine eF ?_)
  ((refine bc rfl (cu rfl rfl rfl aN) ?_))
  exact Vm [(x, y)]
 | false =>
  have ax : ¬ ((x, y) : ao) = (z, w) := fun e => by
   have := mz.2 (⟨congrArg Prod.fst e, congrArg Prod.snd e⟩ : x = z ∧ y = w);rw [al] at this; cases this
  rw [show vA (x, y) (z, w) = [(x, y), (z, w)] from if_neg ax, show vz (x, y) (z, w) = [1] from if_neg ax];refine bm (f := 129) Tryz.func129 rfl rfl rfl rfl ?_;(refine eF ?_)
  ((refine bc rfl (cu rfl rfl rfl aN) ?_))
  exact ah.aQ.refl _
def Sw (V : List ao) (D : List Int) (n : Nat) (aL : List (Nat × ah)) (bd : List (Nat × List AC)) : Prop :=
 ∃ (k : Nat) (ef d : Int), k ≤ D.length ∧ n = D.length - k ∧ ef = k ∧ d = py (D.take k) ∧ bd = [(1, vu V D)] ∧ aL = [(1, sN 1), (3, aH d), (7, cy 1 D.length (cA D)), (8, aH D.length), (9, aH ef)]
theorem VU {D : List Int} {k : Nat} {d : Int} (h : D[k]? = some d) : py (D.take (k + 1)) = max (py (D.take k)) d := by
 have af := (bM.1 h).1
 have e : D.take (k + 1) = D.take k ++ [d] := by
  rw [j3 af, (bM.1 h).2]
 unfold py;rw [e, List.foldl_append]; rfl
theorem ZS : Sk := by
 intro V D ab hd;refine bm (f := 40) Tryz.func40 rfl rfl rfl rfl ?_;(refine eF ?_);refine s8 18 (Sw V D) D.length _ [(1, vu V D)] ⟨0, 0, 0, dC _, rfl, rfl, rfl, rfl, rfl⟩ rfl ⟨rfl, rfl, rfl, rfl, rfl, trivial⟩ ⟨rfl, trivial⟩ rfl ?_;rintro n aL bd ⟨k, ef, d, af, rfl, jR, lV, rfl, rfl⟩ c0;clear c0
 by_cases al : k < D.length
 ·have q2 : ef < (D.length : Int) := by omega
  have bO : 0 ≤ ef := by omega
  obtain ⟨e, g1⟩ : ∃ e, D[k]? = some e := ⟨_, bN al⟩;have jE := CL jR g1;have aB := VU g1;rw [← lV, show max d e = if e > d then e else d by split <;> omega] at aB;(refine eF ?_);exact ⟨D.length - (k + 1), _, [(1, vu V D)], by omega, ⟨k + 1, ef + 1, _, by omega, rfl, by omega, aB.symm, rfl, rfl⟩, rfl, ⟨rfl, rfl, rfl, rfl, rfl, trivial⟩, ⟨rfl, trivial⟩, rfl⟩
 ·have q2 : ¬ ef < (D.length : Int) := by omega
  have cX : D.take k = D := gn (by omega);rw [cX] at lV;rw [← lV];(refine eF ?_)
  ((refine bc rfl (bf rfl aN) ?_))
  exact ah.aQ.refl _
theorem RH {α : Type} {D E : List α} {k : Nat} {d e : α} (h : D.take k = E.take k) (g1 : D[k]? = some d) (g2 : E[k]? = some e) : (d = e → D.take (k + 1) = E.take (k + 1)) ∧ (d ≠ e → D ≠ E) := by
 refine ⟨fun hd => ?_, fun hd eK => hd ?_⟩
 ·rw [j3 (bM.1 g1).1, j3 (bM.1 g2).1, (bM.1 g1).2, (bM.1 g2).2, h, hd]
 ·rw [eK, g2] at g1; exact (kJ g1).symm
def Sz (D E : List Int) (n : Nat) (aL : List (Nat × ah)) (bd : List (Nat × List AC)) : Prop :=
 ∃ (k : Nat) (ef : Int), k ≤ D.length ∧ n = D.length - k ∧ ef = k ∧ D.take k = E.take k ∧ bd = [] ∧ aL = [(0, og D), (1, og E), (12, aH D.length), (13, aH ef)]
theorem acz {D E : List Int} (hd : D.length ≤ 1000000) : aC ag 105 [og D, og E] (bk (decide (D = E))) := by
 by_cases ak : (D.length : Int) = E.length
 ·have Yo : D.length = E.length := by omega
  refine bm (f := 105) Tryz.func105 rfl rfl rfl rfl ?_;(refine eF ?_);refine s8 26 (Sz D E) D.length _ [] ⟨0, 0, dC _, rfl, rfl, rfl, rfl, rfl⟩ rfl ⟨rfl, rfl, rfl, rfl, trivial⟩ trivial rfl ?_;rintro n aL bd ⟨k, ef, af, rfl, jR, lV, rfl, rfl⟩ c0;clear c0
  by_cases al : k < D.length
  ·have q2 : ef < (D.length : Int) := by omega
   have bO : 0 ≤ ef := by omega
   have dj : ef < (E.length : Int) := by omega
   obtain ⟨d, g1⟩ : ∃ d, D[k]? = some d := ⟨_, bN al⟩;obtain ⟨e, g2⟩ : ∃ e, E[k]? = some e := ⟨_, bN (by omega)⟩;have jE := CL jR g1;have x1 := CL jR g2;have st := RH lV g1 g2
   by_cases he : d = e
   ·have aB := st.1 he;(refine eF ?_);exact ⟨D.length - (k + 1), _, [], by omega, ⟨k + 1, ef + 1, by omega, rfl, by omega, aB, rfl, rfl⟩, rfl, ⟨rfl, rfl, rfl, rfl, trivial⟩, trivial, rfl⟩
   ·rw [c3 (st.2 he)];(refine eF ?_)
    ((refine bc rfl (bf rfl aN) ?_))
    exact ah.aQ.refl _
  ·have q2 : ¬ ef < (D.length : Int) := by omega
   rw [gn (by omega), gn (by omega)] at lV;rw [cw lV];(refine eF ?_)
   ((refine bc rfl (bf rfl aN) ?_))
   exact ah.aQ.refl _
 ·rw [c3 (show ¬ D = E from fun e => ak (by rw [e]))];refine bm (f := 105) Tryz.func105 rfl rfl rfl rfl ?_;(refine eF ?_)
  ((refine bc rfl (bf rfl aN) ?_))
  exact ah.aQ.refl _
def SA (D E : List ao) (n : Nat) (aL : List (Nat × ah)) (bd : List (Nat × List AC)) : Prop :=
 ∃ (k : Nat) (ef : Int), k ≤ D.length ∧ n = D.length - k ∧ ef = k ∧ D.take k = E.take k ∧ bd = [] ∧ aL = [(0, gA D), (1, gA E), (12, aH D.length), (13, aH ef)]
theorem H4 {D E : List ao} (hd : D.length ≤ 1000000) : aC ag 59 [gA D, gA E] (bk (decide (D = E))) := by
 by_cases ak : (D.length : Int) = E.length
 ·have Yo : D.length = E.length := by omega
  refine bm (f := 59) Tryz.func59 rfl rfl rfl rfl ?_;(refine eF ?_);refine s8 26 (SA D E) D.length _ [] ⟨0, 0, dC _, rfl, rfl, rfl, rfl, rfl⟩ rfl ⟨rfl, rfl, rfl, rfl, trivial⟩ trivial rfl ?_;rintro n aL bd ⟨k, ef, af, rfl, jR, lV, rfl, rfl⟩ c0;clear c0
  by_cases al : k < D.length
  ·have q2 : ef < (D.length : Int) := by omega
   have bO : 0 ≤ ef := by omega
   have dj : ef < (E.length : Int) := by omega
   obtain ⟨x, y, g1⟩ : ∃ x y, D[k]? = some (x, y) := ⟨_, _, bN al⟩;obtain ⟨z, w, g2⟩ : ∃ z w, E[k]? = some (z, w) := ⟨_, _, bN (by omega)⟩;have jE := pR jR g1;have x1 := pR jR g2;have st := RH lV g1 g2;cases he : b8 x y z w with
   | true =>
    have aB := st.1 (by obtain ⟨rfl, rfl⟩ := mz.1 he; rfl);(refine eF ?_);exact ⟨D.length - (k + 1), _, [], by omega, ⟨k + 1, ef + 1, by omega, rfl, by omega, aB, rfl, rfl⟩, rfl, ⟨rfl, rfl, rfl, rfl, trivial⟩, trivial, rfl⟩
   | false =>
    rw [c3 (st.2 fun e => by
     have := mz.2 (⟨congrArg Prod.fst e, congrArg Prod.snd e⟩ : x = z ∧ y = w);rw [he] at this; cases this)]
    (refine eF ?_)
    ((refine bc rfl (bf rfl aN) ?_))
    exact ah.aQ.refl _
  ·have q2 : ¬ ef < (D.length : Int) := by omega
   rw [gn (by omega), gn (by omega)] at lV;rw [cw lV];(refine eF ?_)
   ((refine bc rfl (bf rfl aN) ?_))
   exact ah.aQ.refl _
 ·rw [c3 (show ¬ D = E from fun e => ak (by rw [e]))];refine bm (f := 59) Tryz.func59 rfl rfl rfl rfl ?_;(refine eF ?_)
  ((refine bc rfl (bf rfl aN) ?_))
  exact ah.aQ.refl _
theorem Z0 : Sr := by
 intro V W D E h1 h2 an aE;have aT := H4 (D := V) (E := W) (by omega);have bH := acz (D := D) (E := E) (by omega);generalize decide (V = W) = p1 at *;generalize decide (D = E) = p2 at *;cases p1 with
 | false =>
  refine bm (f := 61) Tryz.func61 rfl rfl rfl rfl ?_;(refine bY ?_)
  ((refine bc rfl (bf rfl aN) ?_))
  exact ah.aQ.refl _
 | true =>
  refine bm (f := 61) Tryz.func61 rfl rfl rfl rfl ?_;(refine bY ?_)
  ((refine bc rfl (bf rfl aN) ?_))
  exact ah.aQ.refl _
def qm (r : Int) (L : List ao) (x y : Int) : List ao := if 0 ≤ k4 L x y then L else if r ≤ (L.length : Int) then L else L ++ [(x, y)]
def nM (r : Int) (L : List ao) (x y : Int) : Bool := if 0 ≤ k4 L x y then false else if r ≤ (L.length : Int) then false else true
def nN (r : Int) (L : List ao) (x y : Int) : Int := if 0 ≤ k4 L x y then 0 else if r ≤ (L.length : Int) then 90 else 0
theorem tN {L : List ao} {x y : Int} : 0 ≤ k4 L x y ↔ (x, y) ∈ L := by
 unfold k4;cases h : L.findIdx? fun e => decide (e.1 = x) && decide (e.2 = y) with
 | none =>
  rw [List.findIdx?_eq_none_iff] at h;refine ⟨fun aO => absurd aO (by decide), fun aO => ?_⟩;have := h _ aO;simp at this
 | some k =>
  obtain ⟨af, h1, _⟩ := List.findIdx?_eq_some_iff_getElem.1 h;simp only [dc, cq] at h1;refine ⟨fun _ => ?_, fun _ => Int.natCast_nonneg k⟩;have : L[k] = (x, y) := Prod.ext h1.1 h1.2;rw [← this]; exact List.getElem_mem af
abbrev Bi := Int → List ao → Value → e0 → Prop
def So (uI : Bi) : Prop := ∀ n : Int, EY ag 50 [aH n] fun p S => ∃ b, p = ea b ∧ uI (lF n) [] p S
def Si (uI : Bi) : Prop := ∀ (r : Int) L b S (x y : Int), uI r L (ea b) S → L.length ≤ 1100 → yj ag 121 [aR (ea b), aK x y] (ea b) S fun v dm => v = .cr [.one (.c (.bool (nM r L x y))), .one (.c (.int .i64 (nN r L x y)))] ∧ uI r (qm r L x y) (ea b) dm
def Sq (uI : Bi) : Prop := ∀ (r : Int) L b S, uI r L (ea b) S → L.length ≤ 1100 → yj ag 52 [aR (ea b)] (ea b) S fun v dm => v = aH r ∧ uI r L (ea b) dm
end Go.Proofs.YtbcecodakfejaaaGreat
namespace Go.Proofs.YtbcecodakfejaaaGreat
def e8 (l : List dw) (x y : Int) : Nat := (ub l x y).length
theorem Qj (l : List dw) (x y : Int) : e8 l x y ≤ l.length := aen l x y
theorem xC : ∀ {l : List dw} (h : ka l) (x y : Int) (k : Nat) (e : dw), l[k]? = some e → (k < e8 l x y ↔ l8 e.1 e.2.1 x y = true)
 | [], _, _, _, k, e, af => by simp at af
 | f :: l, h, x, y, k, e, af => by
  have aj := je.1 h
  by_cases ar : l8 f.1 f.2.1 x y = true
  ·have hp : e8 (f :: l) x y = e8 l x y + 1 := by
    unfold e8 ub;rw [List.filter_cons, if_pos ar]; rfl
   rw [hp];cases k with
   | zero => simp at af; subst af; simp [ar]
   | succ k =>
    have := xC aj.2 x y k e (by simpa using af);rw [← this]; omega
  ·have dF : ∀ g ∈ f :: l, ¬ l8 g.1 g.2.1 x y = true := by
    intro g aq;rcases fD.1 aq with rfl | aq
    ·exact ar
    ·have h1 := aj.1 g aq;rw [oX] at h1 ar ⊢;omega
   have hp : e8 (f :: l) x y = 0 := by
    unfold e8 ub;rw [List.filter_eq_nil_iff.2 dF]; rfl
   rw [hp];have := dF e (c7 af);simp [this]
theorem IY {l : List dw} (h : ka l) {x y : Int} : ∀ e ∈ l.take (e8 l x y), l8 e.1 e.2.1 x y = true := by
 intro e he;obtain ⟨k, af⟩ := j1 he;have bg := (bM.1 af).1;rw [dK] at bg;rw [fE (by omega)] at af;exact (xC h x y k e af).1 (by omega)
theorem Ls {l : List dw} (h : ka l) {x y : Int} : ∀ e ∈ l.drop (e8 l x y), ¬ l8 e.1 e.2.1 x y = true := by
 intro e he;obtain ⟨k, af⟩ := j1 he;rw [fV] at af;intro bg;have := (xC h x y _ e af).2 bg;omega
theorem QD {l : List dw} (h : ka l) {x y : Int} : ub l x y = l.take (e8 l x y) := by
 conv => lhs; rw [← j2 (e8 l x y) l]
 unfold ub;rw [List.filter_append, List.filter_eq_self.2 (IY h), List.filter_eq_nil_iff.2 (Ls h), nC]
theorem Cd {l : List dw} (h : ka l) {x y : Int} : hH l x y = true ↔ ∃ u, l[e8 l x y]? = some (x, y, u) := by
 constructor
 ·intro aU;unfold hH at aU;rw [List.any_eq_true] at aU;obtain ⟨e, he, al⟩ := aU;simp only [dc, cq] at al;obtain ⟨k, af⟩ := j1 he;have h1 := xC h x y k e af;have h2 : ¬ k < e8 l x y := by rw [h1, oX]; omega
  have Gy := (bM.1 af).1;have qJ : e8 l x y < l.length := by omega
  have hp := bN qJ;have an := xC h x y _ _ hp
  by_cases bq : k = e8 l x y
  ·refine ⟨e.2.2, ?_⟩;rw [← bq, af];exact congrArg some (Prod.ext al.1 (Prod.ext al.2 rfl))
  ·exfalso;have aE := List.pairwise_iff_getElem.1 h (e8 l x y) k qJ Gy (by omega);have ie : l[k] = e := (bM.1 af).2;rw [ie, oX] at aE;have cY : l8 l[e8 l x y].1 l[e8 l x y].2.1 x y = true := by rw [oX]; omega
   have := an.2 cY;omega
 ·rintro ⟨u, hu⟩;exact List.any_eq_true.2 ⟨_, c7 hu, by simp⟩
theorem VV {l : List dw} (h : ka l) {x y : Int} (ax : hH l x y = false) : ∀ e ∈ l.drop (e8 l x y), l8 x y e.1 e.2.1 = true := by
 intro e he;have h1 := Ls h e he
 have h2 : ¬ (e.1 = x ∧ e.2.1 = y) := by
  rintro ⟨an, aE⟩;have : hH l x y = true := List.any_eq_true.2 ⟨_, mO he, by simp [an, aE]⟩;rw [ax] at this; cases this
 rw [oX] at *;omega
theorem QE {l : List dw} (h : ka l) {x y v : Int} (ax : hH l x y = false) : sy l x y v = l.take (e8 l x y) ++ (x, y, v) :: l.drop (e8 l x y) := by
 unfold sy;rw [QD h];congr 2
 conv => lhs; rw [← j2 (e8 l x y) l]
 unfold DL;rw [List.filter_append, List.filter_eq_self.2 (VV h ax), List.filter_eq_nil_iff.2 fun e he => ?_, List.nil_append];have := IY h e he;rw [oX] at *;omega
theorem aeo {l : List dw} (h : ka l) {x y v u : Int} (hp : l[e8 l x y]? = some (x, y, u)) : sy l x y v = l.take (e8 l x y) ++ (x, y, v) :: l.drop (e8 l x y + 1) := by
 unfold sy;rw [QD h];congr 2;have ak := (bM.1 hp).1;have he := (bM.1 hp).2
 conv => lhs; rw [← j2 (e8 l x y) l]
 unfold DL;rw [List.filter_append, List.filter_eq_nil_iff.2 (fun e he => by have := IY h e he; rw [oX] at *; omega), List.nil_append, mN ak, he, List.filter_cons_of_neg (by rw [oX]; simp)];refine List.filter_eq_self.2 fun e hm => ?_;obtain ⟨k, af⟩ := j1 hm;rw [fV] at af;have Gy := (bM.1 af).1;have aE := List.pairwise_iff_getElem.1 h (e8 l x y) _ ak Gy (by omega);rw [he, (bM.1 af).2] at aE;exact aE
theorem ag3 {l : List dw} (h : ka l) {x y u : Int} (hp : l[e8 l x y]? = some (x, y, u)) : hH l x y = true ∧ oi l x y = u := RU h (c7 hp)
abbrev aeb (e : dw) : ao := (e.1, e.2.1)
def oV : Nat → List ao → List dw
 | _, [] => []
 | k, p :: l => (p.1, p.2, (k : Int)) :: oV (k + 1) l
theorem Pd : ∀ (k : Nat) (l : List ao) (p : ao), oV k (l ++ [p]) = oV k l ++ [(p.1, p.2, ((k + l.length : Nat) : Int))]
 | k, [], p => by simp [oV]
 | k, q :: l, p => by
  simp only [List.cons_append, oV, Pd (k + 1) l p, iI];rw [show k + 1 + l.length = k + (l.length + 1) by omega]
theorem Pe : ∀ (k : Nat) (l : List ao), (oV k l).map aeb = l
 | _, [] => rfl
 | k, p :: l => by simp only [oV, j4, Pe (k + 1) l]
theorem abU (k : Nat) (l : List ao) : (oV k l).length = l.length := by
 have := congrArg List.length (Pe k l);rwa [mP] at this
theorem HT : ∀ (k : Nat) (l : List ao) (x y w : Int), (x, y, w) ∈ oV k l ↔ ∃ i : Nat, l[i]? = some (x, y) ∧ w = ((k + i : Nat) : Int)
 | k, [], x, y, w => by simp [oV]
 | k, p :: l, x, y, w => by
  rw [oV, fD, HT (k + 1) l x y w]
  constructor
  ·rintro (h | ⟨i, h1, h2⟩)
   ·simp only [Prod.mk.injEq] at h;exact ⟨0, by rw [sA, h.1, h.2.1], by rw [h.2.2]; rfl⟩
   ·exact ⟨i + 1, by rw [xE]; exact h1, by rw [h2]; omega⟩
  ·rintro ⟨i, h1, h2⟩
   match i with
   | 0 => rw [sA] at h1; cases h1; exact .inl (by rw [h2]; rfl)
   | i + 1 => rw [xE] at h1; exact .inr ⟨i, h1, by rw [h2]; omega⟩
def nL (L : List ao) (es : List dw) : Prop := ka es ∧ es.Perm (oV 0 L) ∧ L.Nodup
theorem nL.len {L : List ao} {es : List dw} (h : nL L es) : es.length = L.length := by rw [h.2.1.length_eq, abU]
theorem abV {L : List ao} (ax : L.Nodup) {i : Nat} {x y : Int} (h : L[i]? = some (x, y)) : k4 L x y = (i : Int) := by
 have aD : 0 ≤ k4 L x y := tN.2 (c7 h);unfold k4 at aD ⊢;cases ar : L.findIdx? fun e => decide (e.1 = x) && decide (e.2 = y) with
 | none => rw [ar] at aD; exact absurd aD (by decide)
 | some k =>
  obtain ⟨af, h1, _⟩ := List.findIdx?_eq_some_iff_getElem.1 ar;simp only [dc, cq] at h1;have aF : L[k] = (x, y) := Prod.ext h1.1 h1.2;obtain ⟨hi, aM⟩ := bM.1 h;have := (List.getElem_inj (h₀ := af) (h₁ := hi) ax).1 (aF.trans aM.symm);rw [this]
theorem Xw {es : List dw} {a b : Int} : hH es a b = true ↔ ∃ w, (a, b, w) ∈ es := by
 unfold hH;rw [List.any_eq_true]
 constructor
 ·rintro ⟨⟨p, q, w⟩, h1, h2⟩;simp only [dc, cq] at h2;exact ⟨w, by rw [← h2.1, ← h2.2]; exact h1⟩
 ·rintro ⟨w, h⟩;exact ⟨_, h, by simp⟩
theorem nL.num {L : List ao} {es : List dw} (h : nL L es) (x y : Int) : hH es x y = decide (0 ≤ k4 L x y) ∧ (0 ≤ k4 L x y → oi es x y = k4 L x y) := by
 by_cases aU : 0 ≤ k4 L x y
 ·obtain ⟨i, hi⟩ := j1 (tN.1 aU);have hm : (x, y, ((0 + i : Nat) : Int)) ∈ es := h.2.1.mem_iff.2 ((HT 0 L x y _).2 ⟨i, hi, rfl⟩);have h1 := RU h.1 hm;exact ⟨by rw [h1.1, cw aU], fun _ => by rw [h1.2, abV h.2.2 hi, jd]⟩
 ·refine ⟨?_, fun aO => absurd aO aU⟩;rw [c3 aU];cases he : hH es x y with
  | false => rfl
  | true =>
   obtain ⟨w, hw⟩ := Xw.1 he;obtain ⟨i, hi, _⟩ := (HT 0 L x y w).1 (h.2.1.mem_iff.1 hw);exact absurd (tN.2 (c7 hi)) aU
theorem nL.add {L : List ao} {es : List dw} (h : nL L es) {x y : Int} (ax : ¬ 0 ≤ k4 L x y) : nL (L ++ [(x, y)]) (sy es x y L.length) := by
 have bU : hH es x y = false := by rw [(h.num x y).1]; exact c3 ax
 refine ⟨aep h.1 x y L.length, ?_, ?_⟩
 ·rw [QE h.1 bU, Pd, jd];refine List.perm_middle.trans ?_;rw [j2];refine (h.2.1.cons _).trans ?_;exact (List.perm_append_singleton _ _).symm
 ·rw [List.nodup_append];refine ⟨h.2.2, by simp, fun a aJ b ab e => ?_⟩;rw [mg] at ab;subst ab; subst e;exact ax (tN.2 aJ)
theorem nL.nil : nL [] [] := ⟨.nil, .refl _, .nil⟩
theorem TH {r : Int} {L : List ao} {x y : Int} (h : 0 ≤ k4 L x y) : qm r L x y = L ∧ nM r L x y = false ∧ nN r L x y = 0 := by unfold qm nM nN; rw [if_pos h, if_pos h, if_pos h]; exact ⟨rfl, rfl, rfl⟩
theorem TG {r : Int} {L : List ao} {x y : Int} (h : ¬ 0 ≤ k4 L x y) (h2 : r ≤ (L.length : Int)) : qm r L x y = L ∧ nM r L x y = false ∧ nN r L x y = 90 := by unfold qm nM nN; rw [if_neg h, if_neg h, if_neg h, if_pos h2, if_pos h2, if_pos h2]; exact ⟨rfl, rfl, rfl⟩
theorem TI {r : Int} {L : List ao} {x y : Int} (h : ¬ 0 ≤ k4 L x y) (h2 : ¬ r ≤ (L.length : Int)) : qm r L x y = L ++ [(x, y)] ∧ nM r L x y = true ∧ nN r L x y = 0 := by unfold qm nM nN; rw [if_neg h, if_neg h, if_neg h, if_neg h2, if_neg h2, if_neg h2]; exact ⟨rfl, rfl, rfl⟩
end Go.Proofs.YtbcecodakfejaaaGreat
namespace Go.Proofs.YtbcecodakfejaaaGreat
open Go.RowKit
abbrev gZ (v : Value) (l : List dw) : bG := ⟨214, 3, v, l.length, ei l⟩
def AW (x y : AC) : Prop := ∀ U ad W v, gh U ad W x v → gh U ad W y v
def x0 : List AC → List AC → Prop
 | [], [] => True
 | x :: xs, y :: aS => AW x y ∧ x0 xs aS
 | _, _ => False
theorem AW.refl (x : AC) : AW x x := fun _ _ _ _ h => h
theorem x0.k9 {U : Nat → Prop} {ad : Nat → Nat} {W : World} : ∀ {xs aS : List AC} {vs : List Value}, x0 xs aS → bL U ad W xs vs → bL U ad W aS vs
 | [], [], _, _, h => h
 | x :: xs, y :: aS, [], _, h => by simp [bL] at h
 | x :: xs, y :: aS, v :: vs, ak, h => by
  have aO : bL U ad W xs vs := ⟨by have := h.1; simpa using this, fun i a u aJ hu => h.2 (i + 1) a u (by simpa using aJ) (by simpa using hu)⟩;have r := x0.k9 ak.2 aO;refine ⟨by have := r.1; simp [this], fun i a u aJ hu => ?_⟩;cases i with
  | zero => simp at aJ hu; subst aJ; subst hu; exact ak.1 U ad W _ (h.2 0 x v rfl rfl)
  | succ i => exact r.2 i a u (by simpa using aJ) (by simpa using hu)
 | [], _ :: _, _, ak, _ => ak.elim
 | _ :: _, [], _, ak, _ => ak.elim
theorem ah.aQ.agg {xs aS : List AC} (h : x0 xs aS) : ah.aQ (.w (.agg xs)) (.w (.agg aS)) := fun U ad W v ⟨vs, e, hv⟩ => ⟨vs, e, h.k9 hv⟩
theorem ta : AW (.c (.slice none 0 0)) (.p (sX 0)) := by
 rintro U ad W v ⟨rfl, _⟩;refine ⟨⟨none, 0, 0, rfl, ?_⟩, ?_⟩
 ·exact ZG W
 ·rintro b ⟨A, l, c, a, e, ak, _⟩;cases e;omega
abbrev sM (k n d m e p1 p2 q1 q2 : Int) : ah := .w (.agg [.c (.int .i64 k), .c (.bool (decide (n < 0))), .p (sX n), .c (.bool (decide (d < 0))), .p (sX d), .c (.bool (decide (m < 0))), .p (sX m), .c (.bool (decide (e < 0))), .p (sX e), .c (.int .i64 p1), .c (.int .i64 p2), .c (.int .i64 q1), .c (.int .i64 q2)])
theorem R8 : ah.aQ (.w (.agg [.c (.int .i64 0), .c (.bool false), .c (.slice none 0 0), .c (.bool false), .c (.slice none 0 0), .c (.bool false), .c (.slice none 0 0), .c (.bool false), .c (.slice none 0 0), .c (.int .i64 0), .c (.int .i64 0), .c (.int .i64 0), .c (.int .i64 0)])) (sM 0 0 0 0 0 0 0 0 0) :=
 ah.aQ.agg ⟨.refl _, .refl _, ta, .refl _, ta, .refl _, ta, .refl _, ta, .refl _, .refl _, .refl _, .refl _, trivial⟩
theorem P2 {x y : Int} (h : bA x y = true) : aC ag 84 [aK x y] (sM 1 x 1 y 1 0 0 0 0) := by
 unfold bA at h;simp only [dc, cq] at h;have aT := jt (n := 1) (by omega) (by omega);have bH := jt (n := x) (by omega) (by omega);have et := jt (n := y) (by omega) (by omega);clear h;refine bm (f := 84) Tryz.func84 rfl rfl rfl rfl ?_;(refine bY ?_)
 ((refine bc rfl (cu rfl rfl rfl aN) ?_))
 exact ah.aQ.refl _
theorem adN {a1 a2 b1 b2 c1 c2 d1 d2 : Int} (h : (bA a1 a2 && bA b1 b2 && bA c1 c2 && bA d1 d2) = false) : aC ag 46 [aK a1 a2, aK b1 b2, aK c1 c2, aK d1 d2] (sM 0 0 0 0 0 0 0 0 0) := by
 have ba := l9 (x := a1) (y := a2) rfl;have ec := l9 (x := b1) (y := b2) rfl;have gr := l9 (x := c1) (y := c2) rfl;have mZ := l9 (x := d1) (y := d2) rfl
 have cs : bA a1 a2 = false ∨ (bA a1 a2 = true ∧ bA b1 b2 = false) ∨ (bA a1 a2 = true ∧ bA b1 b2 = true ∧ bA c1 c2 = false) ∨ (bA a1 a2 = true ∧ bA b1 b2 = true ∧ bA c1 c2 = true ∧ bA d1 d2 = false) := by
  generalize bA a1 a2 = b6 at *;generalize bA b1 b2 = cD at *;generalize bA c1 c2 = fp at *;generalize bA d1 d2 = kx at *;cases b6 <;> cases cD <;> cases fp <;> cases kx <;> simp_all
 clear h;rcases cs with h1 | ⟨h1, h2⟩ | ⟨h1, h2, an⟩ | ⟨h1, h2, an, aE⟩ <;> simp only [*] at ba ec gr mZ
 all_goals
  refine bm (f := 46) Tryz.func46 rfl rfl rfl rfl ?_;(refine bY ?_)
  ((refine bc rfl (cu rfl rfl rfl aN) ?_))
  exact R8
end Go.Proofs.YtbcecodakfejaaaGreat
