/-
  My own texts, without what this claim does not need. My own text.
-/
import Derived.Test.YtpochbhajmbfdaaGreatSEndsK11
set_option maxRecDepth 100000
set_option maxHeartbeats 64000000
set_option linter.unusedVariables false
set_option linter.unusedSimpArgs false
set_option linter.unusedSectionVars false
open Go.Proofs.Tryz renaming prog → ai
namespace Go.Proofs.YtpochbhajmbfdaaGreat
open Go.RowKit
open bA
section
variable {P : Program} {bt : eX} {bS A : Nat → Prop} {R : aJ} {s : aC} {a : Act} {w : World} {ad : Nat → Nat} {c : Code} {Q : Exit → aJ → aC → Prop}
theorem er.adC {b7 : Nat → Nat} (fF : ∀ i j, b7 i = b7 j → i = j) (h : er bt bS R s a w A ad) : er bt bS (fun i => R (b7 i)) s a w A ad :=
 ⟨h.up, h.sub, h.rel, h.oy, h.below, fun i r hi => h.rows (b7 i) r hi, fun i j r q hi ae gu g aw => h.apart (b7 i) (b7 j) r q hi ae (fun e => gu (fF i j e)) g aw, fun i r g hi aw => h.hot (b7 i) r g hi aw, h.jT⟩
theorem aej (i j : Nat) (h : fq P c Q (fun x => R (swp i j x)) s) : fq P c Q R s := fun ok bt bS a w ⟨A, ad, ax⟩ => h ok bt bS a w ⟨A, ad, ax.adC fun x y e => by rw [← mz i j x, e, mz]⟩
end
theorem I0 {A B ds : List AC} {off : Nat} (h : A.length = off) : eA (A ++ B) off ds = A ++ ds ++ B.drop ds.length := by
 unfold eA;rw [← h, List.take_left, List.drop_append, tY (by omega), Nat.add_sub_cancel_left]; simp
def JM (E : List (Int × b9)) (r rm : Nat) (s : bA.aW an) (cs : List AC) (R : aJ) : Prop := ∃ (hv fv cv : Value) (b : Nat) (S : e2) (lk : AC), sM rm s.hot (dR b) S ∧ lk.bb = true ∧ cs = et E r rm s.ph s.I s.J s.T s.dirty hv fv cv b lk ∧ R = dH b S hv fv cv s.hot s.fnd s.ch
def JK (E : List (Int × b9)) (r rm : Nat) (f : FuncId) (args : List aj) (s : bA.aW an) (v : aj) (s' : bA.aW an) : Prop :=
 ∀ cs R, JM E r rm s cs R → c6 ai f (qX :: args) (cI 1000 cs) R (nY 1000 fun ca au az => ca = v ∧ du E r rm s' au az)
section
variable {P : Program} {R : aJ} {s : aC} {ops : Array Oper} {dr : Option (List Nat)} {ty : Nat} {pos : String} {after : Array Edge} {guard : Option (Nat × Bool)} {K : aJ → aC → Prop} {rest : List Oper}
theorem MU {E : List (Int × b9)} {r rm : Nat} {en s1 : bA.aW an} {v : aj} {dst : Option Nat} {f : FuncId} {g : Operand} {aS : Array TypeId} {l : List Operand} {args : List aj} {cs : List AC} [EN : Enters ai f] (hw : want ops ⟨dst, .call ⟨.value g, l.toArray, aS⟩, ty, pos, after, guard⟩ s = some true) (hm : dL dr ⟨dst, .call ⟨.value g, l.toArray, aS⟩, ty, pos, after, guard⟩ = true)
  (aw : s.look g = some (aQ (.func (.func f) #[] #[]))) (aK : l.map s.look = (qX :: args).map some) (af : s.mem 1000 = some cs) (hj : oS dr 1000 = true) (ea : args.all aj.bb = true) (hd : kF dst s.n = true) (hp : JK E r rm f args en v s1) (br : JM E r rm en cs R)
  (h : ∀ au az, du E r rm s1 au az → cL ai ops dr K rest az ((s.dX 1000 au).put dst v)) : cL ai ops dr K (⟨dst, .call ⟨.value g, l.toArray, aS⟩, ty, pos, after, guard⟩ :: rest) R s := by
 have ak : cs.all AC.bb = true := by
  obtain ⟨hv, fv, cv, b, S, lk, _, cR, rfl, _⟩ := br;simp only [j3, mw, cR]; rfl
 refine CP 1000 hw hm aw aK (hp cs R br) af hj (bM.refl _) ak ea hd ?_;rintro _ au az ⟨rfl, aF⟩
 have : b0 az R = az := by
  obtain ⟨_, _, _, _, _, _, _, _, _, rfl⟩ := br;obtain ⟨_, _, _, _, _, _, _, _, _, _, rfl⟩ := aF;exact Qd
 rw [this];exact h au az aF
end
section
variable {E : List (Int × b9)} {r rm : Nat}
theorem NE {s : bA.aW an} (hd : s.dirty = false) (ar : s.fnd = []) (ak : j8 s.ch) (aH : 0 < s.ch.length) : JK E r rm 177 [] s ly (lX (fl s 2 0 0)) := by
 have e8 := ND (E := E) (r := r) (rm := rm) (s := fl s 2 0 0) hd rfl ak aH (eF _) rfl;obtain ⟨ph, I, J, T, dirty, hot, fnd, ch⟩ := s;obtain rfl : dirty = false := hd;obtain rfl : fnd = [] := ar;rintro cs R ⟨hv, fv, cv, b, S, lk, hS, cR, rfl, rfl⟩;have dc : (et E r rm ph I J T false hv fv cv b lk).all AC.bb = true := by simp only [j3, mw, cR]; rfl
 have aM := C7 (E := E) (k := r) (rm := rm) (ph := ph) (I := I) (J := J) (T := T) (dirty := false) (hv := hv) (fv := fv) (cv := cv) (b := b) cR 2 0;refine dh (f := 177) Tryz.func177 rfl (de rfl) (by exact ej rfl) ?_;(repeat first | (with_reducible first | apply bd | apply a8) | (with_reducible apply aN); exact rfl; (repeat first | (with_reducible apply aA); exact rfl); (with_reducible apply aB));refine jX 1000 rfl rfl rfl rfl aM rfl rfl dc rfl rfl ?_;(repeat first | (with_reducible first | apply aX | apply a8 | apply aY) | (with_reducible apply aN); exact rfl; (repeat first | (with_reducible apply aA); exact rfl); (with_reducible apply aB));refine hV rfl rfl rfl rfl rfl rfl rfl rfl e8 ⟨hv, fv, cv, b, S, lk, hS, cR, fun h => (by cases h), rfl, rfl⟩ (fun au az ck => ?_);(repeat first | with_reducible apply aY);obtain ⟨b8, c4, cU, bO, da, gJ, fk, gS, ic, rfl, rfl⟩ := id ck
 ((refine eK rfl bf rfl (bM.refl _) ck.closed rfl fb ?_))
 exact ⟨_, rfl, rfl, ck⟩
theorem NB {s : bA.aW an} (ar : s.fnd = []) (ak : j8 s.ch) (aH : 0 < s.ch.length) : fT E r rm 130 [] s ly (mX s) := by
 unfold mX
 by_cases hd : s.dirty = true
 ·rw [if_pos hd];have e8 := NE (E := E) (r := r) (rm := rm) (s := { s with dirty := false }) rfl ar ak aH;obtain ⟨ph, I, J, T, dirty, hot, fnd, ch⟩ := s;obtain rfl : dirty = true := hd;obtain rfl : fnd = [] := ar;rintro cs R ⟨hv, fv, cv, b, S, lk, hS, cR, fR, rfl, rfl⟩;simp only at e8 ⊢;refine dh (f := 130) Tryz.func130 rfl (de rfl) (by exact ej rfl) ?_;(repeat first | (with_reducible first | apply bd | apply aX | apply a8 | apply aY | apply dm) | (with_reducible apply c8); exact rfl; (exact rfl) | (with_reducible apply aN); exact rfl; (repeat first | (with_reducible apply aA); exact rfl | (with_reducible apply c3); (iterate 3 exact rfl)); (with_reducible apply aB));refine MU rfl rfl rfl rfl rfl rfl rfl rfl e8 ⟨hv, fv, cv, b, S, .c (.slice none 0 0), hS, rfl, rfl, rfl⟩ (fun au az ck => ?_);(repeat first | with_reducible apply aY);obtain ⟨b8, c4, cU, bO, da, gJ, fk, gS, ic, rfl, rfl⟩ := id ck
  ((refine eK rfl bf rfl (bM.refl _) ck.closed rfl fb ?_))
  exact ⟨_, rfl, rfl, ck⟩
 ·have hd : s.dirty = false := by cases h : s.dirty <;> simp_all
  rw [if_neg (by rw [hd]; decide)];exact NC hd ar
theorem aa9 (p q : an) : gX p q = (vp p q, vo p q) := by
 unfold gX vp vo; split <;> rfl
def R7 (E : List (Int × b9)) (r rm : Nat) (s : bA.aW an) (hv fv cv v : Value) (b : Nat) (S : e2) (lk : AC) (gY : List (List an × List Int)) (Z : List AC) (n : Nat) (R : aJ) (aS : List (Nat × aj)) (bF : List (Nat × List AC)) : Prop :=
 ∃ (i : Nat) (ii : Int), i ≤ E.length ∧ n = E.length - i ∧ ii = i ∧ R = bQ (dH b S hv fv cv s.hot [] s.ch) 4 ⟨53, 2, v, E.length, eC (gY.take i) ++ Z.drop (2 * i)⟩ ∧ aS = [(0, qX), (2, aQ v), (11, aT E.length), (12, aT ii)] ∧ bF = [(1000, et E r rm s.ph s.I s.J s.T false hv fv cv b lk)]
theorem NA {s : bA.aW an} (aq : r ≤ 28) (jq : gw (E.map Prod.snd) = true) (ao : E.length ≤ 300) (aH : 0 < E.length) (hd : s.dirty = false) (ar : s.fnd = []) : fT E r rm 121 [] s ly (lj (bz E r rm) s) := by
 rintro cs R ⟨hv, fv, cv, b, S, lk, hS, cR, fR, rfl, rfl⟩;rw [hd, ar];have dc : (et E r rm s.ph s.I s.J s.T false hv fv cv b lk).all AC.bb = true := by simp only [j3, mw, cR]; rfl
 obtain ⟨gY, qv⟩ : ∃ gY, gY = (List.range (bz E r rm).n).map fun k => gX ((bz E r rm).P k) ((bz E r rm).Q k) := ⟨_, rfl⟩;have aE : gY.length = E.length := by rw [qv]; simp [qI]
 have Xn : j8 gY := by
  refine ⟨by omega, fun c ak => ?_⟩;rw [qv] at ak;obtain ⟨k, _, rfl⟩ := ir.1 ak;unfold gX; split
  ·exact ⟨rfl, Nat.le_add_left 1 1099⟩
  ·exact ⟨rfl, Nat.le_add_left 2 1098⟩
 have e8 := NE (E := E) (r := r) (rm := rm) (s := { s with ch := gY }) hd ar Xn (by show 0 < gY.length; omega);rw [show lX (fl ({ s with ch := gY } : bA.aW an) 2 0 0) = lj (bz E r rm) s by rw [qv]; rfl] at e8
 have gq : ∀ i o (a : b9), E[i]? = some (o, a) → gY[i]? = some (gX (lm r a.1) (lm r a.2)) := fun i o a h => by
  have hi := (bX.1 h).1;have e : (E.map Prod.snd).getD i l8 = a := by rw [xq, eG, h]; rfl
  rw [qv, eG, List.getElem?_range (by simpa [qI] using hi)];show some (gX (lm r ((E.map Prod.snd).getD i l8).1) (lm r ((E.map Prod.snd).getD i l8).2)) = _;rw [e]
 have cq : ∀ i o (a : b9), E[i]? = some (o, a) → gx a.1 = true ∧ gx a.2 = true := fun i o a h => by
  have := qE jq i;rw [xq, eG, h] at this;exact this
 have Cr : (hN E.length 2 [.slice none 0 0, .slice none 0 0]).length = 2 * E.length := by unfold hN; simp; omega
 clear qv;refine dh (f := 121) Tryz.func121 rfl (de rfl) (by exact ej rfl) ?_;(repeat first | (with_reducible first | apply bd | apply a8) | (with_reducible apply aN); exact rfl; (repeat first | (with_reducible apply aA); exact rfl | (with_reducible apply c3); (iterate 3 exact rfl) | (with_reducible apply db); (iterate 3 exact rfl)); (with_reducible apply aB));refine zd (l := E.length) (c' := E.length) 4 rfl rfl rfl rfl (dW _) rfl rfl ?h2 (kO (by omega)) rfl (fun v iL => ?_)
 case h2 => omega
 (repeat first | (with_reducible first | apply bd | apply aX | apply a8 | apply aY) | (with_reducible apply aN); exact rfl; (repeat first | (with_reducible apply aA); exact rfl); (with_reducible apply aB));generalize hN E.length 2 [.slice none 0 0, .slice none 0 0] = Z at *;(repeat first | (with_reducible first | apply aX | apply aY | apply fZ) | (with_reducible apply aN); exact rfl; (repeat first | (with_reducible apply aA); exact rfl); (with_reducible apply aB) | (with_reducible apply nA 4); (iterate 4 exact rfl); kernel_rfl; exact rfl);refine mx 32 (R7 E r rm s hv fv cv v b S lk gY Z) E.length (bQ (dH b S hv fv cv s.hot [] s.ch) 4 ⟨53, 2, v, E.length, Z⟩) _ [(1000, et E r rm s.ph s.I s.J s.T false hv fv cv b lk)] ⟨0, 0, eF _, rfl, rfl, rfl, rfl, rfl⟩ (bM.refl _) rfl ⟨rfl, rfl, rfl, rfl, trivial⟩ ⟨rfl, trivial⟩ ?_ ?_
 ·cases lk <;> first | rfl | cases cR
 rintro n R aS bF ⟨i, ii, hi, rfl, hT, rfl, rfl, rfl⟩ ee;clear ee
 have aD : (eC (gY.take i)).length = 2 * i := by
  have := Cf (f := pc) (z := 2) (fun _ => rfl) (gY.take i);rw [eh] at this;unfold eC; rw [this]; omega
 by_cases al : i < E.length
 ·have q2 : ii < (E.length : Int) := by omega
  have cg : 0 ≤ ii := by omega
  have ep : 0 < E.length := by omega
  obtain ⟨o, ⟨p1, p2⟩, ⟨cG, cH⟩, g1⟩ : ∃ o p q, E[i]? = some (o, p, q) := ⟨_, _, _, cp al⟩;obtain ⟨ig, jA⟩ := cq _ _ _ g1;have g2 := gq _ _ _ g1;have aM := HD (E := E) (k := r) (rm := rm) (ph := s.ph) (I := s.I) (J := s.J) (T := s.T) (dirty := false) (hv := hv) (fv := fv) (cv := cv) (b := b) aq rfl cR (by omega) g1 ig jA;rw [← hT] at aM;have bU := Zq (cz p1 r) (cz p2 r) (cz cG r) (cz cH r);have aO : gX (lm r (p1, p2)) (lm r (cG, cH)) = (vp (cz p1 r, cz p2 r) (cz cG r, cz cH r), vo (cz p1 r, cz p2 r) (cz cG r, cz cH r)) := aa9 _ _;rw [aO] at g2;clear aO ig jA g1;generalize cz p1 r = a1 at *;generalize cz p2 r = a2 at *;generalize cz cG r = a3 at *;generalize cz cH r = a4 at *;generalize vp (a1, a2) (a3, a4) = V at *;generalize vo (a1, a2) (a3, a4) = D at *;have aI : ii.toNat * 2 = 2 * i := by omega
  have G3 : ii.toNat * 2 + 2 ≤ (eC (gY.take i) ++ Z.drop (2 * i)).length := by rw [cS, aD, hZ, Cr]; omega
  have cD : eA (eC (gY.take i) ++ Z.drop (2 * i)) (ii.toNat * 2) [.p (cB 2 V.length (b5 V)), .p (cB 1 D.length (cF D))] = eC (gY.take (i + 1)) ++ Z.drop (2 * (i + 1)) := by
   rw [I0 (by rw [aD, aI]), List.drop_drop];congr 1;have bj : i < gY.length := by omega
   rw [oO bj, show gY[i] = (V, D) from ms ((cp bj).symm.trans g2)];simp [eC, pc]
  (repeat first | (with_reducible first | apply bd | apply aX | apply a8 | apply aY | apply dm | apply fZ) | (with_reducible apply eu); exact rfl; (exact bG (by omega)) | (with_reducible apply aN); exact rfl; (repeat first | (with_reducible apply aA); exact rfl); (with_reducible apply aB));refine jX 1000 rfl rfl rfl rfl aM rfl rfl dc rfl rfl ?_;(repeat first | (with_reducible apply aN); exact rfl; (repeat first | (with_reducible apply aA); exact rfl | refine dI rfl rfl rfl rfl (by (exact bU)) rfl ?_); (with_reducible apply aB) | (with_reducible apply jy 4); (iterate 4 exact rfl); (omega); (assumption); exact rfl; kernel_rfl; exact rfl);refine zg 4 rfl rfl rfl rfl ep rfl rfl G3 rfl ?_;(repeat first | (with_reducible first | apply aX | apply a8 | apply aY | apply ls) | (with_reducible apply aN); exact rfl; (repeat first | (with_reducible apply aA); exact rfl | (with_reducible apply fe); (iterate 3 exact rfl); (exact cX (by omega)); exact rfl); (with_reducible apply aB));refine ⟨E.length - (i + 1), bQ (dH b S hv fv cv s.hot [] s.ch) 4 ⟨53, 2, v, E.length, eC (gY.take (i + 1)) ++ Z.drop (2 * (i + 1))⟩, _, [(1000, et E r rm s.ph s.I s.J s.T false hv fv cv b lk)], by omega, ⟨i + 1, ii + 1, by omega, rfl, by omega, rfl, rfl, rfl⟩, fun k q af => ?_, rfl, ⟨rfl, rfl, rfl, rfl, trivial⟩, ⟨rfl, trivial⟩, ?_⟩
  ·rw [← cD] at af
   by_cases hc : k = 4
   ·subst hc; exact af
   ·rw [cl _ _ hc] at af ⊢;rw [cl _ _ hc]; exact af
  ·cases lk <;> first | rfl | cases cR
 ·have q2 : ¬ ii < (E.length : Int) := by omega
  have dp : gY.take i = gY := h0 (by omega);have aI : Z.drop (2 * i) = [] := List.drop_eq_nil_of_le (by omega);rw [dp, aI, pJ];refine aej 3 4 ?_;refine Eg (dH b S hv fv v s.hot [] gY) (fun k q af => ?_) ?_
  ·match k with
   | 0 => exact af
   | 1 => exact af
   | 2 => exact af
   | 3 => rw [← aE]; exact af
   | k + 4 => cases af
  (repeat first | (with_reducible first | apply bd | apply aX | apply a8 | apply aY | apply kX | apply kZ | apply kY) | (with_reducible apply c8); exact rfl; (exact b3 (by omega)) | (with_reducible apply aN); exact rfl; (repeat first | (with_reducible apply aA); exact rfl | (with_reducible apply c3); (iterate 3 exact rfl)); (with_reducible apply aB));refine MU rfl rfl rfl rfl rfl rfl rfl rfl e8 ⟨hv, fv, v, b, S, lk, hS, cR, by rw [hd], by rw [ar]⟩ (fun au az ck => ?_);(repeat first | with_reducible apply aY);obtain ⟨b8, c4, cU, bO, da, gJ, fk, gS, ic, rfl, rfl⟩ := id ck
  ((refine eK rfl bf rfl (bM.refl _) ck.closed rfl fb ?_))
  exact ⟨_, rfl, rfl, ck⟩
end
section
variable {E : List (Int × b9)} {r rm : Nat}
theorem BB {n : Nat} (h : n ≠ 5) : Nat.beq n 5 = false := by
 cases aF : Nat.beq n 5 with
 | false => rfl
 | true => exact absurd (gZ aF) h
theorem Cz {o : cP an} {s : bA.aW an} {q : an} (h : s.fnd = []) : (dF o s q).fnd = [] := by
 unfold dF; split
 ·exact h
 ·split
  ·exact h
  ·rfl
theorem Cy {o : cP an} {s : bA.aW an} {q : an} : (dF o s q).dirty = s.dirty ∧ (dF o s q).ch = s.ch ∧ (dF o s q).hot.length ≤ s.hot.length + 1 := by
 unfold dF; split
 ·exact ⟨rfl, rfl, Nat.le_succ _⟩
 ·split
  ·exact ⟨rfl, rfl, by simp⟩
  ·exact ⟨rfl, rfl, Nat.le_succ _⟩
theorem CA {o : cP an} {s : bA.aW an} {q : an} (h : (dF o s q).ph ≠ 5) : (dF o s q).ph = s.ph ∧ (dF o s q).I = s.I ∧ (dF o s q).J = s.J ∧ (dF o s q).T = s.T := by
 revert h
 unfold dF; split
 ·exact fun _ => ⟨rfl, rfl, rfl, rfl⟩
 ·split
  ·exact fun _ => ⟨rfl, rfl, rfl, rfl⟩
  ·exact fun h => absurd rfl h
theorem ZI {s : bA.aW an} (aq : r ≤ 28) (jq : gw (E.map Prod.snd) = true) (ao : E.length ≤ 300) (aH : 0 < E.length) (hd : s.dirty = false) (ar : s.fnd = []) : fT E r rm 117 [] s ly (if E.length < 2 then lj (bz E r rm) s else fl s 1 0 1) := by
 have e8 := NA (E := E) (r := r) (rm := rm) (s := fl s 1 0 1) aq jq ao aH hd rfl;rw [show lj (bz E r rm) (fl s 1 0 1) = lj (bz E r rm) s from rfl] at e8;obtain ⟨ph, I, J, T, dirty, hot, fnd, ch⟩ := s;obtain rfl : dirty = false := hd;obtain rfl : fnd = [] := ar;rintro cs R ⟨hv, fv, cv, b, S, lk, hS, cR, fR, rfl, rfl⟩;have dc : (et E r rm ph I J T false hv fv cv b lk).all AC.bb = true := by simp only [j3, mw, cR]; rfl
 have W9 : (et E r rm 1 0 1 0 false hv fv cv b lk).all AC.bb = true := by simp only [j3, mw, cR]; rfl
 have aM := C7 (E := E) (k := r) (rm := rm) (ph := ph) (I := I) (J := J) (T := T) (dirty := false) (hv := hv) (fv := fv) (cv := cv) (b := b) cR 1 1
 by_cases h2 : E.length < 2
 ·rw [if_pos h2];have wI : (1 : Int) ≥ (E.length : Int) := by omega
  refine dh (f := 117) Tryz.func117 rfl (de rfl) (by exact ej rfl) ?_;(repeat first | (with_reducible first | apply bd | apply a8) | (with_reducible apply aN); exact rfl; (repeat first | (with_reducible apply aA); exact rfl); (with_reducible apply aB));refine jX 1000 rfl rfl rfl rfl aM rfl rfl dc rfl rfl ?_;(repeat first | (with_reducible apply ey); kernel_rfl | (with_reducible apply dT (id := 1) [0,1,2,3,4,5,6,7,8,9,10]); kernel_rfl; kernel_rfl; exact rfl | (with_reducible first | apply bd | apply aX | apply a8 | apply aY) | (with_reducible apply eu); exact rfl; (exact bG (by omega)) | (with_reducible apply aN); exact rfl; (repeat first | (with_reducible apply aA); exact rfl | (with_reducible apply c3); (iterate 3 exact rfl) | (with_reducible apply db); (iterate 3 exact rfl)); (with_reducible apply aB));refine hV rfl rfl rfl rfl rfl rfl rfl rfl e8 ⟨hv, fv, cv, b, S, lk, hS, cR, fun h => (by cases h), rfl, rfl⟩ (fun au az ck => ?_);(repeat first | with_reducible apply aY);obtain ⟨b8, c4, cU, bO, da, gJ, fk, gS, ic, rfl, rfl⟩ := id ck
  ((refine eK rfl bf rfl (bM.refl _) ck.closed rfl fb ?_))
  exact ⟨_, rfl, rfl, ck⟩
 ·rw [if_neg h2];have wI : ¬ (1 : Int) ≥ (E.length : Int) := by omega
  refine dh (f := 117) Tryz.func117 rfl (de rfl) (by exact ej rfl) ?_;(repeat first | (with_reducible first | apply bd | apply a8) | (with_reducible apply aN); exact rfl; (repeat first | (with_reducible apply aA); exact rfl); (with_reducible apply aB));refine jX 1000 rfl rfl rfl rfl aM rfl rfl dc rfl rfl ?_;(repeat first | (with_reducible apply ey); kernel_rfl | (with_reducible apply dT (id := 1) [0,1,2,3,4,5,6,7,8,9,10]); kernel_rfl; kernel_rfl; exact rfl | (with_reducible first | apply bd | apply aX | apply aY | apply dm) | (with_reducible apply c8); exact rfl; (exact b3 (by omega)) | (with_reducible apply aN); exact rfl; (repeat first | (with_reducible apply aA); exact rfl | (with_reducible apply c3); (iterate 3 exact rfl) | (with_reducible apply db); (iterate 3 exact rfl)); (with_reducible apply aB))
  ((refine eK rfl bf rfl (bM.refl _) W9 rfl fb ?_))
  exact ⟨_, rfl, rfl, hv, fv, cv, b, S, lk, hS, cR, fun h => (by cases h), rfl, rfl⟩
theorem FP {i : Nat} {o : Int} {a : b9} (h : E[i]? = some (o, a)) : (E.map Prod.snd).getD i l8 = a := by rw [xq, eG, h]; rfl
theorem ZD {s : bA.aW an} (aq : r ≤ 28) (jq : gw (E.map Prod.snd) = true) (ao : E.length ≤ 300) (br : s.I < E.length) (hd : s.dirty = false) (ar : s.fnd = []) (a6 : s.hot.length ≤ 1024) (gU : s.ph = 0) : fT E r rm 65 [] s ly (s9 (bz E r rm) s) := by
 obtain ⟨o, ⟨p1, p2⟩, ⟨cG, cH⟩, g1⟩ : ∃ o p q, E[s.I]? = some (o, p, q) := ⟨_, _, _, cp br⟩;have ia := FP g1;have aE := qE jq s.I;rw [ia] at aE;have Vi : (bz E r rm).P s.I = (cz p1 r, cz p2 r) := by show lm r ((E.map Prod.snd).getD s.I l8).1 = _; rw [ia]; rfl
 have Vj : (bz E r rm).Q s.I = (cz cG r, cz cH r) := by show lm r ((E.map Prod.snd).getD s.I l8).2 = _; rw [ia]; rfl
 have BZ : (bz E r rm).n = E.length := mu ..;have H1 := HE (E := E) (r := r) (rm := rm) (s := s) (x := cz p1 r) (y := cz p2 r) (by omega) ar (by omega);unfold s9;rw [Vi, Vj, BZ];have rP := Cy (o := bz E r rm) (s := s) (q := (cz p1 r, cz p2 r));have wP := Cz (o := bz E r rm) (q := (cz p1 r, cz p2 r)) ar;have u1 := CA (o := bz E r rm) (s := s) (q := (cz p1 r, cz p2 r));generalize ol : dF (bz E r rm) s (cz p1 r, cz p2 r) = s1 at *
 by_cases q1 : s1.ph = 5
 ·rw [if_pos q1];rw [q1] at H1;rintro cs R jr;obtain ⟨hv, fv, cv, b, S, lk, hS, cR, fR, rfl, rfl⟩ := id jr;have dc := jr.closed;have aM := HD (E := E) (k := r) (rm := rm) (ph := s.ph) (I := s.I) (J := s.J) (T := s.T) (dirty := s.dirty) (hv := hv) (fv := fv) (cv := cv) (b := b) aq rfl cR (by omega) g1 aE.1 aE.2;clear ol;generalize cz p1 r = a1 at *;generalize cz p2 r = a2 at *;generalize cz cG r = a3 at *;generalize cz cH r = a4 at *;refine dh (f := 65) Tryz.func65 rfl (de rfl) (by exact ej rfl) ?_;(repeat first | (with_reducible first | apply bd | apply a8) | (with_reducible apply aN); exact rfl; (repeat first | (with_reducible apply aA); exact rfl | (with_reducible apply c3); (iterate 3 exact rfl)); (with_reducible apply aB));refine jX 1000 rfl rfl rfl rfl aM rfl rfl dc rfl rfl ?_;(repeat first | (with_reducible first | apply bd | apply aX | apply a8 | apply aY) | (with_reducible apply aN); exact rfl; (repeat first | (with_reducible apply aA); exact rfl); (with_reducible apply aB));refine hV rfl rfl rfl rfl rfl rfl rfl rfl H1 jr (fun au az ck => ?_);(repeat first | (with_reducible first | apply aX | apply aY | apply dA | apply kt) | (with_reducible apply eu); exact rfl; (exact rfl) | (with_reducible apply aN); exact rfl; (repeat first | (with_reducible apply aA); exact rfl); (with_reducible apply aB));obtain ⟨b8, c4, cU, bO, da, gJ, fk, gS, ic, rfl, rfl⟩ := id ck
  ((refine eK rfl bf rfl (bM.refl _) ck.closed rfl fb ?_))
  exact ⟨_, rfl, rfl, ck⟩
 ·rw [if_neg q1];obtain ⟨m1, m2, m3, m4⟩ := u1 q1;rw [BB q1] at H1;have cd := HE (E := E) (r := r) (rm := rm) (s := s1) (x := cz cG r) (y := cz cH r) (by omega) wP q1;have wO := Cy (o := bz E r rm) (s := s1) (q := (cz cG r, cz cH r));have XD := Cz (o := bz E r rm) (q := (cz cG r, cz cH r)) wP;have GZ := CA (o := bz E r rm) (s := s1) (q := (cz cG r, cz cH r));generalize y9 : dF (bz E r rm) s1 (cz cG r, cz cH r) = s2 at *;have fa := ZI (E := E) (r := r) (rm := rm) (s := { s2 with I := s2.I + 1 }) aq jq ao (by omega) (by show s2.dirty = false; rw [wO.1, rP.1]; exact hd) XD;rw [show lj (bz E r rm) { s2 with I := s2.I + 1 } = lj (bz E r rm) s2 from rfl, show fl ({ s2 with I := s2.I + 1 } : bA.aW an) 1 0 1 = fl s2 1 0 1 from rfl] at fa;rintro cs R jr;obtain ⟨hv, fv, cv, b, S, lk, hS, cR, fR, rfl, rfl⟩ := id jr;have dc := jr.closed;have aM := HD (E := E) (k := r) (rm := rm) (ph := s.ph) (I := s.I) (J := s.J) (T := s.T) (dirty := s.dirty) (hv := hv) (fv := fv) (cv := cv) (b := b) aq rfl cR (by omega) g1 aE.1 aE.2;clear ol y9
  by_cases q2 : s2.ph = 5
  ·rw [if_pos q2];rw [q2] at cd;clear fa;generalize cz p1 r = a1 at *;generalize cz p2 r = a2 at *;generalize cz cG r = a3 at *;generalize cz cH r = a4 at *;refine dh (f := 65) Tryz.func65 rfl (de rfl) (by exact ej rfl) ?_;(repeat first | (with_reducible first | apply bd | apply a8) | (with_reducible apply aN); exact rfl; (repeat first | (with_reducible apply aA); exact rfl | (with_reducible apply c3); (iterate 3 exact rfl)); (with_reducible apply aB));refine jX 1000 rfl rfl rfl rfl aM rfl rfl dc rfl rfl ?_;(repeat first | (with_reducible first | apply bd | apply aX | apply a8 | apply aY) | (with_reducible apply aN); exact rfl; (repeat first | (with_reducible apply aA); exact rfl); (with_reducible apply aB));refine hV rfl rfl rfl rfl rfl rfl rfl rfl H1 jr (fun au az ck => ?_);(repeat first | (with_reducible apply aN); exact rfl; (repeat first | (with_reducible apply aA); exact rfl); (with_reducible apply aB));refine hV rfl rfl rfl rfl rfl rfl rfl rfl cd ck (fun au az ck => ?_);(repeat first | (with_reducible first | apply aX | apply aY | apply dA | apply kt) | (with_reducible apply eu); exact rfl; (exact rfl) | (with_reducible apply aN); exact rfl; (repeat first | (with_reducible apply aA); exact rfl); (with_reducible apply aB));obtain ⟨b8, c4, cU, bO, da, gJ, fk, gS, ic, rfl, rfl⟩ := id ck
   ((refine eK rfl bf rfl (bM.refl _) ck.closed rfl fb ?_))
   exact ⟨_, rfl, rfl, ck⟩
  ·rw [if_neg q2];rw [BB q2] at cd;obtain ⟨m5, m6, m7, m8⟩ := GZ q2;have Vh : s.I = s2.I := by omega
   generalize cz p1 r = a1 at *;generalize cz p2 r = a2 at *;generalize cz cG r = a3 at *;generalize cz cH r = a4 at *
   by_cases cg : s.I + 1 < E.length
   ·rw [if_pos cg, show ({ s2 with I := s.I + 1 } : bA.aW an) = { s2 with I := s2.I + 1 } by rw [Vh]];have adn : ¬ (s2.I : Int) + 1 = (E.length : Int) := by omega
    refine dh (f := 65) Tryz.func65 rfl (de rfl) (by exact ej rfl) ?_;(repeat first | (with_reducible first | apply bd | apply a8) | (with_reducible apply aN); exact rfl; (repeat first | (with_reducible apply aA); exact rfl | (with_reducible apply c3); (iterate 3 exact rfl)); (with_reducible apply aB));refine jX 1000 rfl rfl rfl rfl aM rfl rfl dc rfl rfl ?_;(repeat first | (with_reducible first | apply bd | apply aX | apply a8 | apply aY) | (with_reducible apply aN); exact rfl; (repeat first | (with_reducible apply aA); exact rfl); (with_reducible apply aB));refine hV rfl rfl rfl rfl rfl rfl rfl rfl H1 jr (fun au az ck => ?_);(repeat first | (with_reducible apply aN); exact rfl; (repeat first | (with_reducible apply aA); exact rfl); (with_reducible apply aB));refine hV rfl rfl rfl rfl rfl rfl rfl rfl cd ck (fun au az Gk => ?_);clear ck;obtain ⟨b8, c4, cU, bO, da, gJ, fk, gS, ic, rfl, rfl⟩ := id Gk;have fD : du E r rm { s2 with I := s2.I + 1 } (et E r rm s2.ph ((s2.I : Int) + 1) s2.J s2.T s2.dirty b8 c4 cU bO gJ) (dH bO da b8 c4 cU s2.hot s2.fnd s2.ch) := ⟨b8, c4, cU, bO, da, gJ, fk, gS, ic, rfl, rfl⟩;(repeat first | (with_reducible apply ey); kernel_rfl | (with_reducible apply dT (id := 3) [0,1,2,3,4,5,6,7,8,9,10]); kernel_rfl; kernel_rfl; exact rfl | (with_reducible first | apply bd | apply aX | apply a8 | apply aY | apply dm) | (with_reducible apply c8); exact rfl; (first | exact b3 (by omega) | exact rfl) | (with_reducible apply aN); exact rfl; (repeat first | (with_reducible apply aA); exact rfl | (with_reducible apply c3); (iterate 3 exact rfl) | (with_reducible apply fe); (iterate 3 exact rfl); (exact cX (by omega)); exact rfl | (with_reducible apply db); (iterate 3 exact rfl)); (with_reducible apply aB))
    ((refine eK rfl bf rfl (bM.refl _) fD.closed rfl fb ?_))
    exact ⟨_, rfl, rfl, fD⟩
   ·rw [if_neg cg];have adn : (s2.I : Int) + 1 = (E.length : Int) := by omega
    refine dh (f := 65) Tryz.func65 rfl (de rfl) (by exact ej rfl) ?_;(repeat first | (with_reducible first | apply bd | apply a8) | (with_reducible apply aN); exact rfl; (repeat first | (with_reducible apply aA); exact rfl | (with_reducible apply c3); (iterate 3 exact rfl)); (with_reducible apply aB));refine jX 1000 rfl rfl rfl rfl aM rfl rfl dc rfl rfl ?_;(repeat first | (with_reducible first | apply bd | apply aX | apply a8 | apply aY) | (with_reducible apply aN); exact rfl; (repeat first | (with_reducible apply aA); exact rfl); (with_reducible apply aB));refine hV rfl rfl rfl rfl rfl rfl rfl rfl H1 jr (fun au az ck => ?_);(repeat first | (with_reducible apply aN); exact rfl; (repeat first | (with_reducible apply aA); exact rfl); (with_reducible apply aB));refine hV rfl rfl rfl rfl rfl rfl rfl rfl cd ck (fun au az Gk => ?_);clear ck;obtain ⟨b8, c4, cU, bO, da, gJ, fk, gS, ic, rfl, rfl⟩ := id Gk;have fD : du E r rm { s2 with I := s2.I + 1 } (et E r rm s2.ph ((s2.I : Int) + 1) s2.J s2.T s2.dirty b8 c4 cU bO gJ) (dH bO da b8 c4 cU s2.hot s2.fnd s2.ch) := ⟨b8, c4, cU, bO, da, gJ, fk, gS, ic, rfl, rfl⟩;(repeat first | (with_reducible apply ey); kernel_rfl | (with_reducible apply dT (id := 3) [0,1,2,3,4,5,6,7,8,9,10]); kernel_rfl; kernel_rfl; exact rfl | (with_reducible first | apply bd | apply aX | apply a8 | apply aY | apply dm) | (with_reducible apply eu); exact rfl; (exact bG (by omega)) | (with_reducible apply c8); exact rfl; (exact rfl) | (with_reducible apply aN); exact rfl; (repeat first | (with_reducible apply aA); exact rfl | (with_reducible apply c3); (iterate 3 exact rfl) | (with_reducible apply fe); (iterate 3 exact rfl); (exact cX (by omega)); exact rfl | (with_reducible apply db); (iterate 3 exact rfl)); (with_reducible apply aB));refine hV rfl rfl rfl rfl rfl rfl rfl rfl fa fD (fun au az ld => ?_);(repeat first | with_reducible apply aY);obtain ⟨CR, Ch, BR, dD, uy, De, Cq, CH, CG, rfl, rfl⟩ := id ld
    ((refine eK rfl bf rfl (bM.refl _) ld.closed rfl fb ?_))
    exact ⟨_, rfl, rfl, ld⟩
end
section
variable {E : List (Int × b9)} {r rm : Nat}
theorem Xy {o : cP an} {s : bA.aW an} {q : Option an} (h : s.fnd = []) : (kj o s q).fnd = [] := by
 cases q with
 | none => exact h
 | some x => exact Cz h
theorem XA {o : cP an} {s : bA.aW an} {q : Option an} : (kj o s q).dirty = s.dirty ∧ (kj o s q).ch = s.ch ∧ (kj o s q).hot.length ≤ s.hot.length + 1 := by
 cases q with
 | none => exact ⟨rfl, rfl, Nat.le_succ _⟩
 | some x => exact Cy
theorem Xz {o : cP an} {s : bA.aW an} {q : Option an} (h : (kj o s q).ph ≠ 5) : (kj o s q).ph = s.ph ∧ (kj o s q).I = s.I ∧ (kj o s q).J = s.J ∧ (kj o s q).T = s.T := by
 cases q with
 | none => exact ⟨rfl, rfl, rfl, rfl⟩
 | some x => exact CA h
theorem tK {p : an} (h : gx p = true) : cy p.1 p.2 = true := by
 have h := sb.1 h;unfold cy; simp only [dS, cE]; omega
theorem Ok {a b : b9} (h1 : cy a.1.1 a.1.2 = true) (h2 : cy a.2.1 a.2.2 = true) (ap : cy b.1.1 b.1.2 = true) (aL : cy b.2.1 b.2.2 = true) : A0 (gW a b) := by
 rw [← HP h1 h2 ap aL]; exact aas ..
theorem OR {n I J : Nat} (h : J < n) : ((cn n I J).1 : Int) = (if (J : Int) + 1 = (n : Int) then (I : Int) + 1 else I) ∧ ((cn n I J).2 : Int) = (if (J : Int) + 1 = (n : Int) then (I : Int) + 2 else (J : Int) + 1) ∧ (decide ((if (J : Int) + 1 = (n : Int) then (I : Int) + 2 else (J : Int) + 1) < (n : Int)) = decide ((cn n I J).2 < n)) := by
 unfold cn
 by_cases h1 : n ≤ J + 1
 ·have : (J : Int) + 1 = (n : Int) := by omega
  rw [if_pos h1, if_pos this, if_pos this];refine ⟨by simp, by simp, ?_⟩;rw [decide_eq_decide]; simp only; omega
 ·have : ¬ (J : Int) + 1 = (n : Int) := by omega
  rw [if_neg h1, if_neg this, if_neg this];refine ⟨by simp, by simp, ?_⟩;rw [decide_eq_decide]; simp only; omega
theorem ZF {s : bA.aW an} (aq : r ≤ 28) (jq : gw (E.map Prod.snd) = true) (ao : E.length ≤ 300) (pr : s.I < s.J) (kg : s.J < E.length) (hd : s.dirty = false) (ar : s.fnd = []) (a6 : s.hot.length ≤ 1024) (gU : s.ph = 1) : fT E r rm 66 [] s ly (tT (bz E r rm) s) := by
 obtain ⟨o, ⟨p1, p2⟩, ⟨cG, cH⟩, g1⟩ : ∃ o p q, E[s.I]? = some (o, p, q) := ⟨_, _, _, cp (by omega)⟩;obtain ⟨fz, ⟨v1, v2⟩, ⟨aP, w2⟩, g2⟩ : ∃ o p q, E[s.J]? = some (o, p, q) := ⟨_, _, _, cp kg⟩;have ia := FP g1;have lI := FP g2;have aE := qE jq s.I;have hm := qE jq s.J;rw [ia] at aE;rw [lI] at hm;have BZ : (bz E r rm).n = E.length := mu ..
 have Lx : (bz E r rm).tU s.I s.J = lU r (gW ((p1, p2), (cG, cH)) ((v1, v2), (aP, w2))) := by
  show zV r ((E.map Prod.snd).getD s.I l8) ((E.map Prod.snd).getD s.J l8) = _;rw [ia, lI]; rfl
 have aM := Ij (a1 := p1) (a2 := p2) (b1 := cG) (b2 := cH) (c1 := v1) (c2 := v2) (d1 := aP) (d2 := w2);rw [show qC p1 p2 cG cH v1 v2 aP w2 = gW ((p1, p2), (cG, cH)) ((v1, v2), (aP, w2)) from HP (a := ((p1, p2), (cG, cH))) (b := ((v1, v2), (aP, w2))) (tK aE.1) (tK aE.2) (tK hm.1) (tK hm.2)] at aM;have H1 := Nz (E := E) (r := r) (rm := rm) (s := s) aq (Ok (a := ((p1, p2), (cG, cH))) (b := ((v1, v2), (aP, w2))) (tK aE.1) (tK aE.2) (tK hm.1) (tK hm.2)) (fun af => PH aq (a := ((p1, p2), (cG, cH))) (b := ((v1, v2), (aP, w2))) aE.1 aE.2 (by unfold zV; rw [if_pos af])) (by omega) ar (by omega);unfold tT;rw [Lx, BZ];have rP := XA (o := bz E r rm) (s := s) (q := lU r (gW ((p1, p2), (cG, cH)) ((v1, v2), (aP, w2))));have wP := Xy (o := bz E r rm) (q := lU r (gW ((p1, p2), (cG, cH)) ((v1, v2), (aP, w2)))) ar;have u1 := Xz (o := bz E r rm) (s := s) (q := lU r (gW ((p1, p2), (cG, cH)) ((v1, v2), (aP, w2))));generalize kj (bz E r rm) s (lU r (gW ((p1, p2), (cG, cH)) ((v1, v2), (aP, w2)))) = s1 at *;generalize gW ((p1, p2), (cG, cH)) ((v1, v2), (aP, w2)) = M at *;have j9 := wz (ii := (s.I : Int)) rfl g1;have na := wz (ii := (s.J : Int)) rfl g2;have i0 : (0 : Int) ≤ (s.I : Int) := by omega
 have i1 : (s.I : Int) < (E.length : Int) := by omega
 have Zf : (0 : Int) ≤ (s.J : Int) := by omega
 have qy : (s.J : Int) < (E.length : Int) := by omega
 rintro cs R jr;obtain ⟨hv, fv, cv, b, S, lk, hS, cR, fR, rfl, rfl⟩ := id jr;clear Lx ia lI aE hm BZ
 by_cases q1 : s1.ph = 5
 ·rw [if_pos q1];rw [q1] at H1;refine dh (f := 66) Tryz.func66 rfl (de rfl) (by exact ej rfl) ?_;(repeat first | (with_reducible apply ey); kernel_rfl | (with_reducible apply dT (id := 0) [22,23,0,1,2,3,4,5,6,7,8,9,10,11,12,13,14,15,16,17,18,19,20,21,24,25]); kernel_rfl; kernel_rfl; exact rfl | (with_reducible first | apply bd | apply aX | apply a8) | (with_reducible apply aN); exact rfl; (repeat first | (with_reducible apply aA); exact rfl | (with_reducible apply ha); (iterate 5 exact rfl) | (with_reducible apply fB); (iterate 3 exact rfl); (omega); (omega); (assumption); exact rfl | (with_reducible apply c3); (iterate 3 exact rfl) | refine nl rfl rfl rfl rfl rfl rfl (by (exact aM)) rfl ?_); (with_reducible apply aB));refine hV rfl rfl rfl rfl rfl rfl rfl rfl H1 jr (fun au az ck => ?_);(repeat first | (with_reducible first | apply aX | apply aY | apply dA | apply kt) | (with_reducible apply eu); exact rfl; (exact rfl) | (with_reducible apply aN); exact rfl; (repeat first | (with_reducible apply aA); exact rfl); (with_reducible apply aB));obtain ⟨b8, c4, cU, bO, da, gJ, fk, gS, ic, rfl, rfl⟩ := id ck
  ((refine eK rfl bf rfl (bM.refl _) ck.closed rfl fb ?_))
  exact ⟨_, rfl, rfl, ck⟩
 ·rw [if_neg q1];rw [BB q1] at H1;obtain ⟨m1, m2, m3, m4⟩ := u1 q1;have jv := OR (n := E.length) (I := s1.I) (J := s1.J) (by omega);rw [← m2, ← m3];have fa := NA (E := E) (r := r) (rm := rm) (s := { s1 with I := (cn E.length s1.I s1.J).1, J := (cn E.length s1.I s1.J).2 }) aq jq ao (by omega) (by show s1.dirty = false; rw [rP.1]; exact hd) wP;rw [show lj (bz E r rm) { s1 with I := (cn E.length s1.I s1.J).1, J := (cn E.length s1.I s1.J).2 } = lj (bz E r rm) s1 from rfl] at fa
  by_cases q2 : (cn E.length s1.I s1.J).2 < E.length
  ·rw [if_pos q2];have gT := jv.2.2;rw [bG q2] at gT;rw [m2, m3];refine dh (f := 66) Tryz.func66 rfl (de rfl) (by exact ej rfl) ?_;(repeat first | (with_reducible apply ey); kernel_rfl | (with_reducible apply dT (id := 0) [22,23,0,1,2,3,4,5,6,7,8,9,10,11,12,13,14,15,16,17,18,19,20,21,24,25]); kernel_rfl; kernel_rfl; exact rfl | (with_reducible first | apply bd | apply aX | apply a8) | (with_reducible apply aN); exact rfl; (repeat first | (with_reducible apply aA); exact rfl | (with_reducible apply ha); (iterate 5 exact rfl) | (with_reducible apply fB); (iterate 3 exact rfl); (omega); (omega); (assumption); exact rfl | (with_reducible apply c3); (iterate 3 exact rfl) | refine nl rfl rfl rfl rfl rfl rfl (by (exact aM)) rfl ?_); (with_reducible apply aB));refine hV rfl rfl rfl rfl rfl rfl rfl rfl H1 jr (fun au az ck => ?_);obtain ⟨b8, c4, cU, bO, da, gJ, fk, gS, ic, rfl, rfl⟩ := id ck;have bU := zu (E := E) (k := r) (rm := rm) (ph := s1.ph) (I := s1.I) (J := s1.J) (T := s1.T) (dirty := s1.dirty) (hv := b8) (fv := c4) (cv := cU) (b := bO) gS E.length (by omega) (by omega);rw [gT, ← jv.1, ← jv.2.1] at bU;have fD : du E r rm { s1 with I := (cn E.length s1.I s1.J).1, J := (cn E.length s1.I s1.J).2 } (et E r rm s1.ph (cn E.length s1.I s1.J).1 (cn E.length s1.I s1.J).2 s1.T s1.dirty b8 c4 cU bO gJ) (dH bO da b8 c4 cU s1.hot s1.fnd s1.ch) := ⟨b8, c4, cU, bO, da, gJ, fk, gS, ic, rfl, rfl⟩;(repeat first | (with_reducible first | apply bd | apply aX | apply a8 | apply aY | apply dm) | (with_reducible apply c8); exact rfl; (exact rfl) | (with_reducible apply aN); exact rfl; (repeat first | (with_reducible apply aA); exact rfl | (with_reducible apply c3); (iterate 3 exact rfl) | (with_reducible apply db); (iterate 3 exact rfl)); (with_reducible apply aB));refine jX 1000 rfl rfl rfl rfl bU rfl rfl ck.closed rfl rfl ?_;(repeat first | (with_reducible first | apply aX | apply aY | apply dm) | (with_reducible apply c8); exact rfl; (exact rfl) | (with_reducible apply aN); exact rfl; (repeat first | (with_reducible apply aA); exact rfl); (with_reducible apply aB))
   ((refine eK rfl bf rfl (bM.refl _) fD.closed rfl fb ?_))
   refine ⟨_, rfl, rfl, ?_⟩;rw [← m2, ← m3];exact fD
  ·rw [if_neg q2];have gT := jv.2.2;rw [b3 q2] at gT;rw [m2, m3];refine dh (f := 66) Tryz.func66 rfl (de rfl) (by exact ej rfl) ?_;(repeat first | (with_reducible apply ey); kernel_rfl | (with_reducible apply dT (id := 0) [22,23,0,1,2,3,4,5,6,7,8,9,10,11,12,13,14,15,16,17,18,19,20,21,24,25]); kernel_rfl; kernel_rfl; exact rfl | (with_reducible first | apply bd | apply aX | apply a8) | (with_reducible apply aN); exact rfl; (repeat first | (with_reducible apply aA); exact rfl | (with_reducible apply ha); (iterate 5 exact rfl) | (with_reducible apply fB); (iterate 3 exact rfl); (omega); (omega); (assumption); exact rfl | (with_reducible apply c3); (iterate 3 exact rfl) | refine nl rfl rfl rfl rfl rfl rfl (by (exact aM)) rfl ?_); (with_reducible apply aB));refine hV rfl rfl rfl rfl rfl rfl rfl rfl H1 jr (fun au az ck => ?_);obtain ⟨b8, c4, cU, bO, da, gJ, fk, gS, ic, rfl, rfl⟩ := id ck;have bU := zu (E := E) (k := r) (rm := rm) (ph := s1.ph) (I := s1.I) (J := s1.J) (T := s1.T) (dirty := s1.dirty) (hv := b8) (fv := c4) (cv := cU) (b := bO) gS E.length (by omega) (by omega);rw [gT, ← jv.1, ← jv.2.1] at bU;have fD : du E r rm { s1 with I := (cn E.length s1.I s1.J).1, J := (cn E.length s1.I s1.J).2 } (et E r rm s1.ph (cn E.length s1.I s1.J).1 (cn E.length s1.I s1.J).2 s1.T s1.dirty b8 c4 cU bO gJ) (dH bO da b8 c4 cU s1.hot s1.fnd s1.ch) := ⟨b8, c4, cU, bO, da, gJ, fk, gS, ic, rfl, rfl⟩;(repeat first | (with_reducible first | apply bd | apply aX | apply a8 | apply aY | apply dm) | (with_reducible apply c8); exact rfl; (exact rfl) | (with_reducible apply aN); exact rfl; (repeat first | (with_reducible apply aA); exact rfl | (with_reducible apply c3); (iterate 3 exact rfl) | (with_reducible apply db); (iterate 3 exact rfl)); (with_reducible apply aB));refine jX 1000 rfl rfl rfl rfl bU rfl rfl ck.closed rfl rfl ?_;(repeat first | (with_reducible first | apply aX | apply a8 | apply aY) | (with_reducible apply eu); exact rfl; (exact rfl) | (with_reducible apply aN); exact rfl; (repeat first | (with_reducible apply aA); exact rfl); (with_reducible apply aB));refine hV rfl rfl rfl rfl rfl rfl rfl rfl fa fD (fun au az ld => ?_);(repeat first | with_reducible apply aY);obtain ⟨CR, Ch, BR, dD, uy, De, Cq, CH, CG, rfl, rfl⟩ := id ld
   ((refine eK rfl bf rfl (bM.refl _) ld.closed rfl fb ?_))
   exact ⟨_, rfl, rfl, ld⟩
end
section
variable {E : List (Int × b9)} {r rm : Nat}
theorem Us {r : Nat} {l m : an × an} (h1 : eS r l.1.1 l.1.2 = true) (h2 : eS r l.2.1 l.2.2 = true) (ap : eS r m.1.1 m.1.2 = true) (aL : eS r m.2.1 m.2.2 = true) : A0 (n7 r l m) := by
 unfold n7
 split
 ·exact .inl rfl
 ·exact Ok (qm h1) (qm h2) (qm ap) (qm aL)
theorem ZE {s : bA.aW an} (aq : r ≤ 28) (ak : j8 s.ch) (aH : 0 < s.ch.length) (pr : s.I < s.J) (kg : s.J < (bc s.ch).length) (aw : ∀ l ∈ bc s.ch, eS r l.1.1 l.1.2 = true ∧ eS r l.2.1 l.2.2 = true) (ar : s.fnd = []) (a6 : s.hot.length ≤ 1024) (gU : s.ph = 3) : fT E r rm 68 [] s ly (r7 (bz E r rm) s) := by
 have wN : (bc s.ch).length ≤ 300 * 1100 := kS (Dh (m := 1100) fun c h => (ak.2 c h).2) (j1 _ ak.1);obtain ⟨a1, a2, a3, a4, g1⟩ : ∃ a b c d, (bc s.ch)[s.I]? = some ((a, b), (c, d)) := ⟨_, _, _, _, cp (by omega)⟩;obtain ⟨b1, b2, ed, dD, g2⟩ : ∃ a b c d, (bc s.ch)[s.J]? = some ((a, b), (c, d)) := ⟨_, _, _, _, cp kg⟩;obtain ⟨jk, z2⟩ := aw _ (dG g1);obtain ⟨z3, z4⟩ := aw _ (dG g2);have aM := acv aq (l := ((a1, a2), (a3, a4))) (m := ((b1, b2), (ed, dD))) jk z2 z3 z4;have iY := Us (l := ((a1, a2), (a3, a4))) (m := ((b1, b2), (ed, dD))) jk z2 z3 z4;have hcut : (bz E r rm).cut ((a1, a2), (a3, a4)) ((b1, b2), (ed, dD)) = lU r (n7 r ((a1, a2), (a3, a4)) ((b1, b2), (ed, dD))) := K3 r _ _;have H1 := Nz (E := E) (r := r) (rm := rm) (s := s) aq iY (fun af => K4 (l := ((a1, a2), (a3, a4))) (m := ((b1, b2), (ed, dD))) jk z2 (by rw [K3, if_pos af])) (by omega) ar (by omega);have j9 := NP (ii := (s.I : Int)) rfl g1;have na := NP (ii := (s.J : Int)) rfl g2
 have em : r7 (bz E r rm) s = if (bA.dL (bz E r rm) s (lU r (n7 r ((a1, a2), (a3, a4)) ((b1, b2), (ed, dD))))).ph = 5 then bA.dL (bz E r rm) s (lU r (n7 r ((a1, a2), (a3, a4)) ((b1, b2), (ed, dD)))) else
   if (cn (bc s.ch).length s.I s.J).2 < (bc s.ch).length then { bA.dL (bz E r rm) s (lU r (n7 r ((a1, a2), (a3, a4)) ((b1, b2), (ed, dD)))) with I := (cn (bc s.ch).length s.I s.J).1, J := (cn (bc s.ch).length s.I s.J).2 } else mX (bA.dL (bz E r rm) s (lU r (n7 r ((a1, a2), (a3, a4)) ((b1, b2), (ed, dD))))) := by
  unfold r7;simp only [g1, g2, hcut]
 rw [em];clear em hcut iY jk z2 z3 z4 g1 g2;simp only at aM H1;generalize n7 r ((a1, a2), (a3, a4)) ((b1, b2), (ed, dD)) = M at *;have jv := OR (n := (bc s.ch).length) (I := s.I) (J := s.J) kg;have i0 : (0 : Int) ≤ (s.I : Int) := by omega
 have i1 : (s.I : Int) < ((bc s.ch).length : Int) := by omega
 have Zf : (0 : Int) ≤ (s.J : Int) := by omega
 have qy : (s.J : Int) < ((bc s.ch).length : Int) := by omega
 rintro cs R jr;obtain ⟨hv, fv, cv, b, S, lk, hS, cR, fR, rfl, rfl⟩ := id jr;obtain rfl := fR gU
 by_cases af : M.k = 1
 ·have rF : lU r M = some (il r M) := if_pos af;rw [rF] at H1 ⊢;have rP := Cy (o := bz E r rm) (s := s) (q := il r M);have wP := Cz (o := bz E r rm) (q := il r M) ar;have u1 := CA (o := bz E r rm) (s := s) (q := il r M);unfold bA.dL;simp only [kj] at H1 ⊢;generalize dF (bz E r rm) s (il r M) = s1 at *
  by_cases q1 : s1.ph = 5
  ·rw [if_pos q1, if_pos q1];rw [q1] at H1;obtain ⟨mk, HV, md, dx, HQ, HW, HX, HY, HZ⟩ := M;obtain rfl : mk = 1 := af;refine dh (f := 68) Tryz.func68 rfl (de rfl) (by exact ej rfl) ?_;(repeat first | (with_reducible apply ey); kernel_rfl | (with_reducible apply dT (id := 1) [20,21,0,1,2,3,4,5,6,7,8,9,10,11,12,13,14,15,16,17,18,19,22,23]); kernel_rfl; kernel_rfl; exact rfl | (with_reducible apply dT (id := 2) [7,0,1,2,3,4,5,6,8]); kernel_rfl; kernel_rfl; exact rfl | (with_reducible first | apply bd | apply aX | apply a8 | apply aY) | (with_reducible apply eu); exact rfl; (assumption) | (with_reducible apply aN); exact rfl; (repeat first | (with_reducible apply aA); exact rfl | (with_reducible apply ha); (iterate 5 exact rfl) | (with_reducible apply fB); (iterate 3 exact rfl); (omega); (omega); (assumption); exact rfl | (with_reducible apply c3); (iterate 3 exact rfl) | refine jS rfl rfl rfl rfl rfl (by (exact aM)) rfl ?_); (with_reducible apply aB));refine hV rfl rfl rfl rfl rfl rfl rfl rfl H1 jr (fun au az ck => ?_);(repeat first | (with_reducible first | apply aX | apply aY | apply dA | apply kt) | (with_reducible apply eu); exact rfl; (assumption) | (with_reducible apply aN); exact rfl; (repeat first | (with_reducible apply aA); exact rfl); (with_reducible apply aB));obtain ⟨b8, c4, cU, bO, da, gJ, fk, gS, ic, rfl, rfl⟩ := id ck
   ((refine eK rfl bf rfl (bM.refl _) ck.closed rfl fb ?_))
   exact ⟨_, rfl, rfl, ck⟩
  ·rw [if_neg q1, if_neg q1];rw [BB q1] at H1;obtain ⟨m1, m2, m3, m4⟩ := u1 q1;have s6 : s1.ch = s.ch := rP.2.1;have fa := NB (E := E) (r := r) (rm := rm) (s := { s1 with dirty := true, I := (cn (bc s.ch).length s.I s.J).1, J := (cn (bc s.ch).length s.I s.J).2 }) wP (by show j8 s1.ch; rw [s6]; exact ak) (by show 0 < s1.ch.length; rw [s6]; exact aH);rw [show mX ({ s1 with dirty := true, I := (cn (bc s.ch).length s.I s.J).1, J := (cn (bc s.ch).length s.I s.J).2 } : bA.aW an) = mX ({ s1 with dirty := true } : bA.aW an) from rfl] at fa;have nx : (s1.I : Int) = s.I := by omega
   have CJ : (s1.J : Int) = s.J := by omega
   obtain ⟨mk, HV, md, dx, HQ, HW, HX, HY, HZ⟩ := M;obtain rfl : mk = 1 := af
   by_cases q2 : (cn (bc s.ch).length s.I s.J).2 < (bc s.ch).length
   ·rw [if_pos q2];have gT := jv.2.2;rw [bG q2] at gT;refine dh (f := 68) Tryz.func68 rfl (de rfl) (by exact ej rfl) ?_;(repeat first | (with_reducible apply ey); kernel_rfl | (with_reducible apply dT (id := 1) [20,21,0,1,2,3,4,5,6,7,8,9,10,11,12,13,14,15,16,17,18,19,22,23]); kernel_rfl; kernel_rfl; exact rfl | (with_reducible apply dT (id := 2) [7,0,1,2,3,4,5,6,8]); kernel_rfl; kernel_rfl; exact rfl | (with_reducible first | apply bd | apply aX | apply a8 | apply aY) | (with_reducible apply eu); exact rfl; (assumption) | (with_reducible apply aN); exact rfl; (repeat first | (with_reducible apply aA); exact rfl | (with_reducible apply ha); (iterate 5 exact rfl) | (with_reducible apply fB); (iterate 3 exact rfl); (omega); (omega); (assumption); exact rfl | (with_reducible apply c3); (iterate 3 exact rfl) | refine jS rfl rfl rfl rfl rfl (by (exact aM)) rfl ?_); (with_reducible apply aB));refine hV rfl rfl rfl rfl rfl rfl rfl rfl H1 jr (fun au az ck => ?_);obtain ⟨b8, c4, cU, bO, da, gJ, fk, gS, ic, rfl, rfl⟩ := id ck;obtain rfl := ic (by omega);have bU := zu (E := E) (k := r) (rm := rm) (ph := s1.ph) (I := s1.I) (J := s1.J) (T := s1.T) (dirty := true) (hv := b8) (fv := c4) (cv := cU) (b := bO) gS (bc s1.ch).length (by omega) (by omega);rw [s6, nx, CJ, gT, ← jv.1, ← jv.2.1] at bU;have fD : du E r rm { s1 with dirty := true, I := (cn (bc s.ch).length s.I s.J).1, J := (cn (bc s.ch).length s.I s.J).2 } (et E r rm s1.ph (cn (bc s.ch).length s.I s.J).1 (cn (bc s.ch).length s.I s.J).2 s1.T true b8 c4 cU bO (.p (cB 4 (bc s1.ch).length (mj (bc s1.ch))))) (dH bO da b8 c4 cU s1.hot s1.fnd s1.ch) := ⟨b8, c4, cU, bO, da, _, fk, rfl, fun _ => rfl, rfl, rfl⟩;rw [s6] at fD;rw [nx, CJ, s6];(repeat first | (with_reducible first | apply bd | apply aX | apply a8 | apply aY | apply dm) | (with_reducible apply c8); exact rfl; (exact rfl) | (with_reducible apply aN); exact rfl; (repeat first | (with_reducible apply aA); exact rfl | (with_reducible apply c3); (iterate 3 exact rfl) | (with_reducible apply db); (iterate 3 exact rfl)); (with_reducible apply aB));refine jX 1000 rfl rfl rfl rfl bU rfl rfl rfl rfl rfl ?_;(repeat first | (with_reducible first | apply aX | apply aY | apply dm) | (with_reducible apply c8); exact rfl; (exact rfl) | (with_reducible apply aN); exact rfl; (repeat first | (with_reducible apply aA); exact rfl); (with_reducible apply aB))
    ((refine eK rfl bf rfl (bM.refl _) fD.closed rfl fb ?_))
    exact ⟨_, rfl, rfl, fD⟩
   ·rw [if_neg q2];have gT := jv.2.2;rw [b3 q2] at gT;refine dh (f := 68) Tryz.func68 rfl (de rfl) (by exact ej rfl) ?_;(repeat first | (with_reducible apply ey); kernel_rfl | (with_reducible apply dT (id := 1) [20,21,0,1,2,3,4,5,6,7,8,9,10,11,12,13,14,15,16,17,18,19,22,23]); kernel_rfl; kernel_rfl; exact rfl | (with_reducible apply dT (id := 2) [7,0,1,2,3,4,5,6,8]); kernel_rfl; kernel_rfl; exact rfl | (with_reducible first | apply bd | apply aX | apply a8 | apply aY) | (with_reducible apply eu); exact rfl; (assumption) | (with_reducible apply aN); exact rfl; (repeat first | (with_reducible apply aA); exact rfl | (with_reducible apply ha); (iterate 5 exact rfl) | (with_reducible apply fB); (iterate 3 exact rfl); (omega); (omega); (assumption); exact rfl | (with_reducible apply c3); (iterate 3 exact rfl) | refine jS rfl rfl rfl rfl rfl (by (exact aM)) rfl ?_); (with_reducible apply aB));refine hV rfl rfl rfl rfl rfl rfl rfl rfl H1 jr (fun au az ck => ?_);obtain ⟨b8, c4, cU, bO, da, gJ, fk, gS, ic, rfl, rfl⟩ := id ck;obtain rfl := ic (by omega);have bU := zu (E := E) (k := r) (rm := rm) (ph := s1.ph) (I := s1.I) (J := s1.J) (T := s1.T) (dirty := true) (hv := b8) (fv := c4) (cv := cU) (b := bO) gS (bc s1.ch).length (by omega) (by omega);rw [s6, nx, CJ, gT, ← jv.1, ← jv.2.1] at bU;have fD : du E r rm { s1 with dirty := true, I := (cn (bc s.ch).length s.I s.J).1, J := (cn (bc s.ch).length s.I s.J).2 } (et E r rm s1.ph (cn (bc s.ch).length s.I s.J).1 (cn (bc s.ch).length s.I s.J).2 s1.T true b8 c4 cU bO (.p (cB 4 (bc s1.ch).length (mj (bc s1.ch))))) (dH bO da b8 c4 cU s1.hot s1.fnd s1.ch) := ⟨b8, c4, cU, bO, da, _, fk, rfl, fun _ => rfl, rfl, rfl⟩;rw [s6] at fD fa;rw [nx, CJ, s6];(repeat first | (with_reducible first | apply bd | apply aX | apply a8 | apply aY | apply dm) | (with_reducible apply c8); exact rfl; (exact rfl) | (with_reducible apply aN); exact rfl; (repeat first | (with_reducible apply aA); exact rfl | (with_reducible apply c3); (iterate 3 exact rfl) | (with_reducible apply db); (iterate 3 exact rfl)); (with_reducible apply aB));refine jX 1000 rfl rfl rfl rfl bU rfl rfl rfl rfl rfl ?_;(repeat first | (with_reducible first | apply aX | apply a8 | apply aY) | (with_reducible apply eu); exact rfl; (assumption) | (with_reducible apply aN); exact rfl; (repeat first | (with_reducible apply aA); exact rfl); (with_reducible apply aB));refine hV rfl rfl rfl rfl rfl rfl rfl rfl fa fD (fun au az ld => ?_);(repeat first | with_reducible apply aY);obtain ⟨CR, Ch, BR, dD, uy, De, Cq, CH, CG, rfl, rfl⟩ := id ld
    ((refine eK rfl bf rfl (bM.refl _) ld.closed rfl fb ?_))
    exact ⟨_, rfl, rfl, ld⟩
 ·have rF : lU r M = none := if_neg af;rw [rF];have Vn : bA.dL (bz E r rm) s none = s := rfl;rw [Vn, if_neg (by omega)];clear H1;have fa := NB (E := E) (r := r) (rm := rm) (s := { s with I := (cn (bc s.ch).length s.I s.J).1, J := (cn (bc s.ch).length s.I s.J).2 }) ar ak aH;rw [show mX ({ s with I := (cn (bc s.ch).length s.I s.J).1, J := (cn (bc s.ch).length s.I s.J).2 } : bA.aW an) = mX s from rfl] at fa;have bU := zu (E := E) (k := r) (rm := rm) (ph := s.ph) (I := s.I) (J := s.J) (T := s.T) (dirty := s.dirty) (hv := hv) (fv := fv) (cv := cv) (b := b) cR (bc s.ch).length (by omega) (by omega);have fD : du E r rm { s with I := (cn (bc s.ch).length s.I s.J).1, J := (cn (bc s.ch).length s.I s.J).2 } (et E r rm s.ph (cn (bc s.ch).length s.I s.J).1 (cn (bc s.ch).length s.I s.J).2 s.T s.dirty hv fv cv b (.p (cB 4 (bc s.ch).length (mj (bc s.ch))))) (dH b S hv fv cv s.hot s.fnd s.ch) := ⟨hv, fv, cv, b, S, _, hS, rfl, fun _ => rfl, rfl, rfl⟩;obtain ⟨mk, HV, md, dx, HQ, HW, HX, HY, HZ⟩ := M;have af : ¬ mk = 1 := af
  by_cases q2 : (cn (bc s.ch).length s.I s.J).2 < (bc s.ch).length
  ·rw [if_pos q2];have gT := jv.2.2;rw [bG q2] at gT;rw [gT, ← jv.1, ← jv.2.1] at bU;refine dh (f := 68) Tryz.func68 rfl (de rfl) (by exact ej rfl) ?_;(repeat first | (with_reducible apply ey); kernel_rfl | (with_reducible apply dT (id := 1) [20,21,0,1,2,3,4,5,6,7,8,9,10,11,12,13,14,15,16,17,18,19,22,23]); kernel_rfl; kernel_rfl; exact rfl | (with_reducible apply dT (id := 2) [7,0,1,2,3,4,5,6,8]); kernel_rfl; kernel_rfl; exact rfl | (with_reducible first | apply bd | apply aX | apply a8 | apply aY | apply dm) | (with_reducible apply c8); exact rfl; (exact b3 (by omega)) | (with_reducible apply aN); exact rfl; (repeat first | (with_reducible apply aA); exact rfl | (with_reducible apply ha); (iterate 5 exact rfl) | (with_reducible apply fB); (iterate 3 exact rfl); (omega); (omega); (assumption); exact rfl | (with_reducible apply c3); (iterate 3 exact rfl) | (with_reducible apply db); (iterate 3 exact rfl) | refine jS rfl rfl rfl rfl rfl (by (exact aM)) rfl ?_); (with_reducible apply aB));refine jX 1000 rfl rfl rfl rfl bU rfl rfl rfl rfl rfl ?_;(repeat first | (with_reducible first | apply aX | apply aY | apply dm) | (with_reducible apply c8); exact rfl; (exact rfl) | (with_reducible apply aN); exact rfl; (repeat first | (with_reducible apply aA); exact rfl); (with_reducible apply aB))
   ((refine eK rfl bf rfl (bM.refl _) fD.closed rfl fb ?_))
   exact ⟨_, rfl, rfl, fD⟩
  ·rw [if_neg q2];have gT := jv.2.2;rw [b3 q2] at gT;rw [gT, ← jv.1, ← jv.2.1] at bU;refine dh (f := 68) Tryz.func68 rfl (de rfl) (by exact ej rfl) ?_;(repeat first | (with_reducible apply ey); kernel_rfl | (with_reducible apply dT (id := 1) [20,21,0,1,2,3,4,5,6,7,8,9,10,11,12,13,14,15,16,17,18,19,22,23]); kernel_rfl; kernel_rfl; exact rfl | (with_reducible apply dT (id := 2) [7,0,1,2,3,4,5,6,8]); kernel_rfl; kernel_rfl; exact rfl | (with_reducible first | apply bd | apply aX | apply a8 | apply aY | apply dm) | (with_reducible apply c8); exact rfl; (exact b3 (by omega)) | (with_reducible apply aN); exact rfl; (repeat first | (with_reducible apply aA); exact rfl | (with_reducible apply ha); (iterate 5 exact rfl) | (with_reducible apply fB); (iterate 3 exact rfl); (omega); (omega); (assumption); exact rfl | (with_reducible apply c3); (iterate 3 exact rfl) | (with_reducible apply db); (iterate 3 exact rfl) | refine jS rfl rfl rfl rfl rfl (by (exact aM)) rfl ?_); (with_reducible apply aB));refine jX 1000 rfl rfl rfl rfl bU rfl rfl rfl rfl rfl ?_;(repeat first | (with_reducible first | apply aX | apply a8 | apply aY) | (with_reducible apply eu); exact rfl; (assumption) | (with_reducible apply aN); exact rfl; (repeat first | (with_reducible apply aA); exact rfl); (with_reducible apply aB));refine hV rfl rfl rfl rfl rfl rfl rfl rfl fa fD (fun au az ld => ?_);(repeat first | with_reducible apply aY);obtain ⟨CR, Ch, BR, dD, uy, De, Cq, CH, CG, rfl, rfl⟩ := id ld
   ((refine eK rfl bf rfl (bM.refl _) ld.closed rfl fb ?_))
   exact ⟨_, rfl, rfl, ld⟩
end
section
variable {E : List (Int × b9)} {r rm : Nat}
theorem Qc {b : Nat} {S : e2} {hv fv cv v : Value} {hot fnd : List an} {ch l : List (List an × List Int)} : bQ (dH b S hv fv cv hot fnd ch) 3 (wo v l) = dH b S hv fv v hot fnd l := by
  funext i
  match i with
  | 0 => rfl
  | 1 => rfl
  | 2 => rfl
  | 3 => rfl
  | i + 4 => rfl
theorem KR {ch : List (List an × List Int)} {i : Nat} {ii : Int} {V : List an} {D : List Int} (hi : ii = i) (h : i < ch.length) : eA (eC ch) (ii.toNat * 2) [.p (cB 2 V.length (b5 V)), .p (cB 1 D.length (cF D))] = eC (ch.set i (V, D)) := by
  subst hi;rw [ks];have e : ch = ch.take i ++ ch[i] :: ch.drop (i + 1) := by rw [← mV h, kq]
  have ao : (eC (ch.take i)).length = i * 2 := by
    have := Cf (f := pc) (z := 2) (fun _ => rfl) (ch.take i);unfold eC;rw [this, eh, pM (by omega)]
  have aI : eC ch = eC (ch.take i) ++ (pc ch[i] ++ eC (ch.drop (i + 1))) := (congrArg eC e).trans (by unfold eC; rw [List.flatMap_append, List.flatMap_cons]);rw [aI, I0 ao, List.set_eq_take_append_cons_drop, if_pos h];simp [eC, pc]
theorem V4 {p q : an} {bm : List an} (aE : bm.Nodup) : ix (dB (decide ((2 : Int) ^ r * q.1 < 2 ^ r * p.1)) (decide ((2 : Int) ^ r * q.2 < 2 ^ r * p.2))) bm = fJ p q bm := by
  rw [Cd, Cd];exact aeZ aE (by rw [List.filter_eq_self.2 (fun _ _ => rfl)])
theorem ZG {s : bA.aW an} {V : List an} {D : List Int} {p q x : an} (aq : r ≤ 28) (ak : j8 s.ch) (g1 : s.ch[s.I]? = some (V, D)) (g2 : V[s.J]? = some p) (g3 : V[s.J + 1]? = some q) (g4 : s.hot[s.T]? = some x) (kf : ∀ d ∈ D, 1 ≤ d ∧ d ≤ 1048576)
    (hp : eS r p.1 p.2 = true) (al : eS r q.1 q.2 = true) (hd : s.dirty = false) (a6 : s.hot.length ≤ 1024) (wS : s.fnd.length ≤ 1024) (wT : (lb (bz E r rm) p q x s.fnd).Nodup) (gU : s.ph = 2) : fT E r rm 67 [] s ly (r5 (bz E r rm) s (V, D) p q (lb (bz E r rm) p q x s.fnd)) := by
  obtain ⟨p1, p2⟩ := p;obtain ⟨q1, q2⟩ := q;obtain ⟨c5, dt⟩ := x;obtain ⟨jU, hB⟩ := ak.2 _ (dG g1);simp only at jU hB;have br := (bX.1 g1).1;have kg := (bX.1 g3).1;have dZ := (bX.1 g4).1;have ax : gB (r : Int) r := ⟨aq, .inr (.inr rfl)⟩;have aM := Pt (D := D) g2 g3 (by omega);have bU := acS (E := E.map Prod.snd) (R := rm) aq (p := (p1, p2)) (q := (q1, q2)) (x := (c5, dt)) hp al;have e8 := DO (se ax hp) (se ax al);simp only at bU e8;have mZ := abS (a1 := 2 ^ r * p1) (a2 := 2 ^ r * p2) (b1 := 2 ^ r * q1) (b2 := 2 ^ r * q2);obtain ⟨j9, na⟩ := BM (ii := (s.I : Int)) rfl g1;have EO := YX (ii := (s.T : Int)) rfl g4;have i0 : (0 : Int) ≤ (s.I : Int) := by omega
  have i1 : (s.I : Int) < (s.ch.length : Int) := by omega
  have i2 : 0 < s.ch.length := by omega
  have t0 : (0 : Int) ≤ (s.T : Int) := by omega
  have t1 : (s.T : Int) < (s.hot.length : Int) := by omega
  have t2 : 0 < s.hot.length := by omega
  have WV : (s.J : Int) ≤ 1100 := by omega
  have cO := ak.1
 
  have split : ∀ bm : List an, bm = lb (bz E r rm) (p1, p2) (q1, q2) (c5, dt) s.fnd → bm ≠ [] → bm.length ≤ 1100 → aR ai 126 [hr bm, vI (decide ((2 : Int) ^ r * q1 < 2 ^ r * p1)) (decide ((2 : Int) ^ r * q2 < 2 ^ r * p2))] (hr (fJ (p1, p2) (q1, q2) bm)) ∧
      aR ai 125 [nS V D, aT s.J, hr (fJ (p1, p2) (q1, q2) bm)] (.cZ [.agg [.p (cB 2 (bA.c7 V s.J (fJ (p1, p2) (q1, q2) bm)).length (b5 (bA.c7 V s.J (fJ (p1, p2) (q1, q2) bm)))), .p (cB 1 (eo D s.J bm.length).length (cF (eo D s.J bm.length)))], .one (.c (.bool true))]) := by
    intro bm XL cq XH;have aE : bm.Nodup := by rw [XL]; exact wT
    have hlen : (fJ (p1, p2) (q1, q2) bm).length = bm.length := (Aq _ _ bm).length_eq;refine ⟨?_, ?_⟩
    · have := acj (fx := decide ((2 : Int) ^ r * q1 < 2 ^ r * p1)) (fy := decide ((2 : Int) ^ r * q2 < 2 ^ r * p2)) 1100 bm XH (by omega)
      rw [V4 (p := (p1, p2)) (q := (q1, q2)) aE] at this;exact this
    · have := Zv V D s.J (fJ (p1, p2) (q1, q2) bm) jU hB (by omega) (by omega) kf
      have G0 : (fJ (p1, p2) (q1, q2) bm).isEmpty = false := by
        cases h : fJ (p1, p2) (q1, q2) bm with
        | nil => rw [h] at hlen; exact absurd (mv hlen.symm) cq
        | cons a l => rfl
      rw [G0, hlen] at this;exact this
  rintro cs R jr;obtain ⟨hv, fv, cv, b, S, lk, hS, cR, fR, rfl, rfl⟩ := id jr;have dc : ∀ (I J T : Int) (fv : Value), (et E r rm s.ph I J T s.dirty hv fv cv b lk).all AC.bb = true := fun I J T fv => by simp only [j3, mw, cR]; rfl
  unfold r5;simp only [show (bz E r rm).gz = fJ from rfl];cases uV : iX (bz E r rm) (p1, p2) (q1, q2) (c5, dt) with
  | true =>
    rw [uV] at bU;have FQ : lb (bz E r rm) (p1, p2) (q1, q2) (c5, dt) s.fnd = s.fnd ++ [(c5, dt)] := by unfold lb; rw [uV]; rfl
    rw [FQ] at split ⊢;have XI : (s.fnd ++ [(c5, dt)]).length ≤ 1100 := by rw [cS, List.length_singleton]; omega
    have cq : s.fnd ++ [(c5, dt)] ≠ [] := by simp
    obtain ⟨xL, EL⟩ := split _ rfl cq XI;clear split wT uV;refine dh (f := 67) Tryz.func67 rfl (de rfl) (by exact ej rfl) ?_;(repeat first | (with_reducible apply ey); kernel_rfl | (with_reducible apply dT (id := 1) [10,0,1,2,3,4,5,6,7,8,9,11]); kernel_rfl; kernel_rfl; exact rfl | (with_reducible apply dT (id := 2) [6,0,1,2,3,4,5,7]); kernel_rfl; kernel_rfl; exact rfl | (with_reducible apply dT (id := 3) [10,0,1,2,3,4,5,6,7,8,9,11]); kernel_rfl; kernel_rfl; exact rfl | (with_reducible apply dT (id := 4) [0,1,2,3,4,5,6]); kernel_rfl; kernel_rfl; exact rfl | (with_reducible apply lx (id := 5) [0,1,2,3,4,5,6,7,8,9,10] [3000048]); kernel_rfl; kernel_rfl; exact rfl | (with_reducible first | apply bd | apply aX | apply a8 | apply aY) | (with_reducible apply eu); exact rfl; (exact rfl) | (with_reducible apply aN); exact rfl; (repeat first | (with_reducible apply aA); exact rfl | (with_reducible apply c3); (iterate 3 exact rfl) | (with_reducible apply mH); (iterate 10 exact rfl) | refine dI rfl rfl rfl rfl (by (exact aM)) rfl ?_ | refine jS rfl rfl rfl rfl rfl (by (exact bU)) rfl ?_); (with_reducible apply aB) | (with_reducible apply jy 1); (iterate 4 exact rfl); (omega); (assumption); exact rfl; kernel_rfl; exact rfl | (with_reducible apply jy 3); (iterate 4 exact rfl); (omega); (assumption); exact rfl; kernel_rfl; exact rfl | (with_reducible apply nB 1); (iterate 3 exact rfl); (assumption); assumption; exact rfl; kernel_rfl; exact rfl | (with_reducible apply nB 3); (iterate 3 exact rfl); (assumption); assumption; exact rfl; kernel_rfl; exact rfl);refine qx 2 rfl rfl rfl rfl ?q1 ?q2 rfl rfl (fun v1 iL => ?_)
    case q1 => exact kO (by show s.fnd.length + 1 ≤ 1000000; omega)
    case q2 => show (s.fnd.length + 1) * 16 ≤ 140737488355328; omega
    (repeat first | (with_reducible apply ey); kernel_rfl | (with_reducible apply dT (id := 7) [0,1,2,3,4,5,6,7,8,9]); kernel_rfl; kernel_rfl; exact rfl | (with_reducible first | apply bd | apply aX | apply a8 | apply aY) | (with_reducible apply aN); exact rfl; (repeat first | (with_reducible apply aA); exact rfl | (with_reducible apply c3); (iterate 3 exact rfl) | (with_reducible apply fe); (iterate 3 exact rfl); (exact cX (by omega)); exact rfl); (with_reducible apply aB) | (with_reducible apply nA 1); (iterate 4 exact rfl); kernel_rfl; exact rfl);refine Eg (dH b S hv v1 cv s.hot (s.fnd ++ [(c5, dt)]) s.ch) (bM.of_eq adP.symm) ?_
    by_cases tk : s.T + 1 < s.hot.length
    · rw [if_pos tk]
      have yN : (s.T : Int) + 1 < (s.hot.length : Int) := by omega
      have fD : du E r rm { s with fnd := s.fnd ++ [(c5, dt)], T := s.T + 1 } (et E r rm s.ph s.I s.J ((s.T : Int) + 1) s.dirty hv v1 cv b lk) (dH b S hv v1 cv s.hot (s.fnd ++ [(c5, dt)]) s.ch) := ⟨hv, v1, cv, b, S, lk, hS, cR, fR, rfl, rfl⟩;(repeat first | (with_reducible first | apply dA | apply kt) | (with_reducible apply eu); exact rfl; (exact bG (by omega)))
      ((refine eK rfl bf rfl (bM.refl _) fD.closed rfl fb ?_))
      exact ⟨_, rfl, rfl, fD⟩
    · rw [if_neg tk, if_neg cq]
      have yN : ¬ (s.T : Int) + 1 < (s.hot.length : Int) := by omega
      have G0 : ¬ ((s.fnd ++ [(c5, dt)]).length : Int) = 0 := fun h => cq (mv (by omega));refine Qs 2 1000 9 (im v1 (s.fnd ++ [(c5, dt)])) rfl rfl rfl ?_;refine nQ 2 59 2 rfl ?_
      refine Eg (dH b S hv (.slice none 0 0) cv s.hot [] s.ch) (fun k q af => by
        match k with
        | 0 => exact af
        | 1 => exact af
        | 2 => exact af
        | 3 => exact af
        | k + 4 => cases af) ?_
      have fD : du E r rm { s with T := 0, fnd := [], ch := s.ch.set s.I (bA.c7 V s.J (fJ (p1, p2) (q1, q2) (s.fnd ++ [(c5, dt)])), eo D s.J (s.fnd ++ [(c5, dt)]).length) } (et E r rm s.ph s.I s.J 0 s.dirty hv (.slice none 0 0) cv b lk) (dH b S hv (.slice none 0 0) cv s.hot [] (s.ch.set s.I (bA.c7 V s.J (fJ (p1, p2) (q1, q2) (s.fnd ++ [(c5, dt)])), eo D s.J (s.fnd ++ [(c5, dt)]).length))) := ⟨hv, _, cv, b, S, lk, hS, cR, (fun h => absurd (gU.symm.trans (show s.ph = 3 from h)) (by decide)), rfl, rfl⟩
      have mM : bQ (dH b S hv (.slice none 0 0) cv s.hot [] s.ch) 3 ⟨53, 2, cv, s.ch.length, eA (eC s.ch) ((s.I : Int).toNat * 2) [.p (cB 2 (bA.c7 V s.J (fJ (p1, p2) (q1, q2) (s.fnd ++ [(c5, dt)]))).length (b5 (bA.c7 V s.J (fJ (p1, p2) (q1, q2) (s.fnd ++ [(c5, dt)]))))), .p (cB 1 (eo D s.J (s.fnd ++ [(c5, dt)]).length).length (cF (eo D s.J (s.fnd ++ [(c5, dt)]).length)))]⟩ = dH b S hv (.slice none 0 0) cv s.hot [] (s.ch.set s.I (bA.c7 V s.J (fJ (p1, p2) (q1, q2) (s.fnd ++ [(c5, dt)])), eo D s.J (s.fnd ++ [(c5, dt)]).length)) := by
        rw [KR rfl br, show s.ch.length = (s.ch.set s.I (bA.c7 V s.J (fJ (p1, p2) (q1, q2) (s.fnd ++ [(c5, dt)])), eo D s.J (s.fnd ++ [(c5, dt)]).length)).length from (List.length_set ..).symm];exact Qc
      generalize Hk : bA.c7 V s.J (fJ (p1, p2) (q1, q2) (s.fnd ++ [(c5, dt)])) = JT at *;generalize Hl : eo D s.J (s.fnd ++ [(c5, dt)]).length = vN at *;generalize M4 : fJ (p1, p2) (q1, q2) (s.fnd ++ [(c5, dt)]) = L' at *;(repeat first | (with_reducible apply lx (id := 12) [0,1,2,3,4,5,6,7,8,9,10,11,12,13,14,15,16,17,18,19,20,21,22,23,24,25,26,27,28,29,30,31,32] [4000000]); kernel_rfl; kernel_rfl; exact rfl | (with_reducible first | apply bd | apply aX | apply a8 | apply aY | apply dm) | (with_reducible apply c8); exact rfl; (exact b3 (by omega)) | (with_reducible apply aN); exact rfl; (repeat first | (with_reducible apply aA); exact rfl | (with_reducible apply c3); (iterate 3 exact rfl) | (with_reducible apply db); (iterate 3 exact rfl) | refine dI rfl rfl rfl rfl (by (first | exact e8 | exact mZ | exact xL)) rfl ?_ | refine jS rfl rfl rfl rfl rfl (by (exact EL)) rfl ?_); (with_reducible apply aB) | (with_reducible apply jy 3); (iterate 4 exact rfl); (omega); (assumption); exact rfl; kernel_rfl; exact rfl);refine zg 3 rfl rfl rfl rfl i2 rfl rfl j9.1 rfl ?_;(repeat first | (with_reducible apply ey); kernel_rfl | (with_reducible first | apply aX | apply a8 | apply aY) | (with_reducible apply aN); exact rfl; (repeat first | (with_reducible apply aA); exact rfl | (with_reducible apply c3); (iterate 3 exact rfl)); (with_reducible apply aB))
      ((refine eK rfl bf rfl (bM.of_eq mM.symm) fD.closed rfl fb ?_))
      exact ⟨_, rfl, rfl, fD⟩
  | false =>
    rw [uV] at bU;have FQ : lb (bz E r rm) (p1, p2) (q1, q2) (c5, dt) s.fnd = s.fnd := by unfold lb; rw [uV]; rfl
    rw [FQ] at split ⊢;have ag8 := dZ
    by_cases cq : s.fnd = []
    · clear split wT uV
      have dp : ({ s with fnd := s.fnd } : bA.aW an) = s := rfl;have aH : (s.fnd.length : Int) = 0 := by rw [cq]; rfl
      have fa := ND (E := E) (r := r) (rm := rm) (s := { s with T := 0, fnd := [], J := s.J + 1 }) hd rfl ak br (by show s.J + 1 ≤ 1100; omega) gU;have ld : du E r rm { s with T := 0, fnd := [], J := s.J + 1 } (et E r rm s.ph s.I ((s.J : Int) + 1) 0 s.dirty hv fv cv b lk) (dH b S hv fv cv s.hot s.fnd s.ch) := ⟨hv, fv, cv, b, S, lk, hS, cR, fR, rfl, by rw [cq]⟩
      by_cases tk : s.T + 1 < s.hot.length
      · rw [if_pos tk]
        have yN : (s.T : Int) + 1 < (s.hot.length : Int) := by omega
        have fD : du E r rm { s with fnd := s.fnd, T := s.T + 1 } (et E r rm s.ph s.I s.J ((s.T : Int) + 1) s.dirty hv fv cv b lk) (dH b S hv fv cv s.hot s.fnd s.ch) := ⟨hv, fv, cv, b, S, lk, hS, cR, fR, rfl, rfl⟩;refine dh (f := 67) Tryz.func67 rfl (de rfl) (by exact ej rfl) ?_;(repeat first | (with_reducible apply ey); kernel_rfl | (with_reducible apply dT (id := 1) [10,0,1,2,3,4,5,6,7,8,9,11]); kernel_rfl; kernel_rfl; exact rfl | (with_reducible apply dT (id := 2) [6,0,1,2,3,4,5,7]); kernel_rfl; kernel_rfl; exact rfl | (with_reducible apply dT (id := 3) [10,0,1,2,3,4,5,6,7,8,9,11]); kernel_rfl; kernel_rfl; exact rfl | (with_reducible apply dT (id := 4) [0,1,2,3,4,5,6]); kernel_rfl; kernel_rfl; exact rfl | (with_reducible apply dT (id := 7) [0,1,2,3,4,5,6,7,8,9]); kernel_rfl; kernel_rfl; exact rfl | (with_reducible first | apply bd | apply aX | apply a8 | apply aY | apply dA | apply dm | apply kt) | (with_reducible apply eu); exact rfl; (exact bG (by omega)) | (with_reducible apply c8); exact rfl; (exact rfl) | (with_reducible apply aN); exact rfl; (repeat first | (with_reducible apply aA); exact rfl | (with_reducible apply c3); (iterate 3 exact rfl) | (with_reducible apply fe); (iterate 3 exact rfl); (exact cX (by omega)); exact rfl | refine dI rfl rfl rfl rfl (by (exact aM)) rfl ?_ | refine jS rfl rfl rfl rfl rfl (by (exact bU)) rfl ?_); (with_reducible apply aB) | (with_reducible apply nA 1); (iterate 4 exact rfl); kernel_rfl; exact rfl | (with_reducible apply jy 1); (iterate 4 exact rfl); (omega); (assumption); exact rfl; kernel_rfl; exact rfl | (with_reducible apply jy 3); (iterate 4 exact rfl); (omega); (assumption); exact rfl; kernel_rfl; exact rfl | (with_reducible apply nB 1); (iterate 3 exact rfl); (assumption); assumption; exact rfl; kernel_rfl; exact rfl | (with_reducible apply nB 3); (iterate 3 exact rfl); (assumption); assumption; exact rfl; kernel_rfl; exact rfl)
        ((refine eK rfl bf rfl (bM.refl _) fD.closed rfl fb ?_))
        exact ⟨_, rfl, rfl, fD⟩
      · rw [if_neg tk, if_pos cq]
        have yN : ¬ (s.T : Int) + 1 < (s.hot.length : Int) := by omega
        refine dh (f := 67) Tryz.func67 rfl (de rfl) (by exact ej rfl) ?_;(repeat first | (with_reducible apply ey); kernel_rfl | (with_reducible apply dT (id := 1) [10,0,1,2,3,4,5,6,7,8,9,11]); kernel_rfl; kernel_rfl; exact rfl | (with_reducible apply dT (id := 2) [6,0,1,2,3,4,5,7]); kernel_rfl; kernel_rfl; exact rfl | (with_reducible apply dT (id := 3) [10,0,1,2,3,4,5,6,7,8,9,11]); kernel_rfl; kernel_rfl; exact rfl | (with_reducible apply dT (id := 4) [0,1,2,3,4,5,6]); kernel_rfl; kernel_rfl; exact rfl | (with_reducible apply dT (id := 7) [0,1,2,3,4,5,6,7,8,9]); kernel_rfl; kernel_rfl; exact rfl | (with_reducible first | apply bd | apply aX | apply a8 | apply aY | apply dm) | (with_reducible apply eu); exact rfl; (exact bG (by omega)) | (with_reducible apply c8); exact rfl; (first | exact b3 (by omega) | exact rfl) | (with_reducible apply aN); exact rfl; (repeat first | (with_reducible apply aA); exact rfl | (with_reducible apply c3); (iterate 3 exact rfl) | (with_reducible apply fe); (iterate 3 exact rfl); (exact cX (by omega)); exact rfl | refine dI rfl rfl rfl rfl (by (exact aM)) rfl ?_ | refine jS rfl rfl rfl rfl rfl (by (exact bU)) rfl ?_); (with_reducible apply aB) | (with_reducible apply nA 1); (iterate 4 exact rfl); kernel_rfl; exact rfl | (with_reducible apply nA 2); (iterate 4 exact rfl); kernel_rfl; exact rfl | (with_reducible apply jy 1); (iterate 4 exact rfl); (omega); (assumption); exact rfl; kernel_rfl; exact rfl | (with_reducible apply jy 3); (iterate 4 exact rfl); (omega); (assumption); exact rfl; kernel_rfl; exact rfl | (with_reducible apply nB 1); (iterate 3 exact rfl); (assumption); assumption; exact rfl; kernel_rfl; exact rfl | (with_reducible apply nB 3); (iterate 3 exact rfl); (assumption); assumption; exact rfl; kernel_rfl; exact rfl);refine hV rfl rfl rfl rfl rfl rfl rfl rfl fa ld (fun au az Gl => ?_);(repeat first | (with_reducible first | apply aX | apply aY | apply dA | apply kt));obtain ⟨CR, Ch, BR, dD, uy, De, Cq, CH, CG, rfl, rfl⟩ := id Gl
        ((refine eK rfl bf rfl (bM.refl _) Gl.closed rfl fb ?_))
        exact ⟨_, rfl, rfl, Gl⟩
    obtain ⟨xL, EL⟩ := split _ rfl cq (by omega);clear split wT uV;refine dh (f := 67) Tryz.func67 rfl (de rfl) (by exact ej rfl) ?_;(repeat first | (with_reducible apply ey); kernel_rfl | (with_reducible apply dT (id := 1) [10,0,1,2,3,4,5,6,7,8,9,11]); kernel_rfl; kernel_rfl; exact rfl | (with_reducible apply dT (id := 2) [6,0,1,2,3,4,5,7]); kernel_rfl; kernel_rfl; exact rfl | (with_reducible apply dT (id := 3) [10,0,1,2,3,4,5,6,7,8,9,11]); kernel_rfl; kernel_rfl; exact rfl | (with_reducible apply dT (id := 4) [0,1,2,3,4,5,6]); kernel_rfl; kernel_rfl; exact rfl | (with_reducible apply dT (id := 7) [0,1,2,3,4,5,6,7,8,9]); kernel_rfl; kernel_rfl; exact rfl | (with_reducible first | apply bd | apply aX | apply a8 | apply aY | apply dm) | (with_reducible apply c8); exact rfl; (exact rfl) | (with_reducible apply aN); exact rfl; (repeat first | (with_reducible apply aA); exact rfl | (with_reducible apply c3); (iterate 3 exact rfl) | (with_reducible apply fe); (iterate 3 exact rfl); (exact cX (by omega)); exact rfl | refine dI rfl rfl rfl rfl (by (exact aM)) rfl ?_ | refine jS rfl rfl rfl rfl rfl (by (exact bU)) rfl ?_); (with_reducible apply aB) | (with_reducible apply nA 1); (iterate 4 exact rfl); kernel_rfl; exact rfl | (with_reducible apply jy 1); (iterate 4 exact rfl); (omega); (assumption); exact rfl; kernel_rfl; exact rfl | (with_reducible apply jy 3); (iterate 4 exact rfl); (omega); (assumption); exact rfl; kernel_rfl; exact rfl | (with_reducible apply nB 1); (iterate 3 exact rfl); (assumption); assumption; exact rfl; kernel_rfl; exact rfl | (with_reducible apply nB 3); (iterate 3 exact rfl); (assumption); assumption; exact rfl; kernel_rfl; exact rfl)
    by_cases tk : s.T + 1 < s.hot.length
    · rw [if_pos tk]
      have yN : (s.T : Int) + 1 < (s.hot.length : Int) := by omega
      have fD : du E r rm { s with fnd := s.fnd, T := s.T + 1 } (et E r rm s.ph s.I s.J ((s.T : Int) + 1) s.dirty hv fv cv b lk) (dH b S hv fv cv s.hot (s.fnd) s.ch) := ⟨hv, fv, cv, b, S, lk, hS, cR, fR, rfl, rfl⟩;(repeat first | (with_reducible first | apply dA | apply kt) | (with_reducible apply eu); exact rfl; (exact bG (by omega)))
      ((refine eK rfl bf rfl (bM.refl _) fD.closed rfl fb ?_))
      exact ⟨_, rfl, rfl, fD⟩
    · rw [if_neg tk, if_neg cq]
      have yN : ¬ (s.T : Int) + 1 < (s.hot.length : Int) := by omega
      have G0 : ¬ ((s.fnd).length : Int) = 0 := fun h => cq (mv (by omega));refine Qs 2 1000 9 (im fv (s.fnd)) rfl rfl rfl ?_;refine nQ 2 59 2 rfl ?_
      refine Eg (dH b S hv (.slice none 0 0) cv s.hot [] s.ch) (fun k q af => by
        match k with
        | 0 => exact af
        | 1 => exact af
        | 2 => exact af
        | 3 => exact af
        | k + 4 => cases af) ?_
      have fD : du E r rm { s with T := 0, fnd := [], ch := s.ch.set s.I (bA.c7 V s.J (fJ (p1, p2) (q1, q2) (s.fnd)), eo D s.J (s.fnd).length) } (et E r rm s.ph s.I s.J 0 s.dirty hv (.slice none 0 0) cv b lk) (dH b S hv (.slice none 0 0) cv s.hot [] (s.ch.set s.I (bA.c7 V s.J (fJ (p1, p2) (q1, q2) (s.fnd)), eo D s.J (s.fnd).length))) := ⟨hv, _, cv, b, S, lk, hS, cR, (fun h => absurd (gU.symm.trans (show s.ph = 3 from h)) (by decide)), rfl, rfl⟩
      have mM : bQ (dH b S hv (.slice none 0 0) cv s.hot [] s.ch) 3 ⟨53, 2, cv, s.ch.length, eA (eC s.ch) ((s.I : Int).toNat * 2) [.p (cB 2 (bA.c7 V s.J (fJ (p1, p2) (q1, q2) (s.fnd))).length (b5 (bA.c7 V s.J (fJ (p1, p2) (q1, q2) (s.fnd))))), .p (cB 1 (eo D s.J (s.fnd).length).length (cF (eo D s.J (s.fnd).length)))]⟩ = dH b S hv (.slice none 0 0) cv s.hot [] (s.ch.set s.I (bA.c7 V s.J (fJ (p1, p2) (q1, q2) (s.fnd)), eo D s.J (s.fnd).length)) := by
        rw [KR rfl br, show s.ch.length = (s.ch.set s.I (bA.c7 V s.J (fJ (p1, p2) (q1, q2) s.fnd), eo D s.J s.fnd.length)).length from (List.length_set ..).symm];exact Qc
      generalize Hk : bA.c7 V s.J (fJ (p1, p2) (q1, q2) (s.fnd)) = JT at *;generalize Hl : eo D s.J (s.fnd).length = vN at *;generalize M4 : fJ (p1, p2) (q1, q2) (s.fnd) = L' at *;(repeat first | (with_reducible apply lx (id := 12) [0,1,2,3,4,5,6,7,8,9,10,11,12,13,14,15,16,17,18,19,20,21,22,23,24,25,26,27,28,29,30,31,32] [4000000]); kernel_rfl; kernel_rfl; exact rfl | (with_reducible first | apply bd | apply aX | apply a8 | apply aY | apply dm) | (with_reducible apply c8); exact rfl; (exact b3 (by omega)) | (with_reducible apply aN); exact rfl; (repeat first | (with_reducible apply aA); exact rfl | (with_reducible apply c3); (iterate 3 exact rfl) | (with_reducible apply db); (iterate 3 exact rfl) | refine dI rfl rfl rfl rfl (by (first | exact e8 | exact mZ | exact xL)) rfl ?_ | refine jS rfl rfl rfl rfl rfl (by (exact EL)) rfl ?_); (with_reducible apply aB) | (with_reducible apply jy 3); (iterate 4 exact rfl); (omega); (assumption); exact rfl; kernel_rfl; exact rfl);refine zg 3 rfl rfl rfl rfl i2 rfl rfl j9.1 rfl ?_;(repeat first | (with_reducible apply ey); kernel_rfl | (with_reducible first | apply aX | apply a8 | apply aY) | (with_reducible apply aN); exact rfl; (repeat first | (with_reducible apply aA); exact rfl | (with_reducible apply c3); (iterate 3 exact rfl)); (with_reducible apply aB))
      ((refine eK rfl bf rfl (bM.of_eq mM.symm) fD.closed rfl fb ?_))
      exact ⟨_, rfl, rfl, fD⟩
end
section
variable {P : Program} {R : aJ} {s : aC} {ops : Array Oper} {dr : Option (List Nat)} {ty : Nat} {pos : String} {after : Array Edge} {guard : Option (Nat × Bool)} {K : aJ → aC → Prop} {rest : List Oper}
theorem CQ {bs : List Value} {dst : Option Nat} {f : FuncId} {g : Operand} {aS : Array TypeId} {l : List Operand} {args : List aj} {m0 : Mem} {R0 : aJ} {Post : aj → Mem → aJ → Prop} [E : Enters P f] (hw : want ops ⟨dst, .call ⟨.value g, l.toArray, aS⟩, ty, pos, after, guard⟩ s = some true) (hm : dL dr ⟨dst, .call ⟨.value g, l.toArray, aS⟩, ty, pos, after, guard⟩ = true)
  (aw : s.look g = some (aQ (.func (.func f) bs.toArray #[]))) (ab : bs.all BC = true) (aK : bs.map (fun b => some (xj b)) ++ l.map s.look = args.map some) (hp : c6 P f args m0 R0 Post) (ay : ∀ x ∈ args, ∀ j, x.owns j → ∃ cs, m0 j = some cs) (pz : ∀ k cs, m0 k = some cs → s.mem k = some cs ∧ (oS dr k = true ∨ ∀ r aG az, Post r aG az → aG k = some cs)) (aq : bM R0 R) (fG : ∀ k cs x j, m0 k = some cs → x ∈ cs → x.owns j → ∃ au, m0 j = some au) (hd : kF dst s.n = true)
  (h : ∀ r aG az, Post r aG az → (∀ k au, aG k = some au → (∃ cs, m0 k = some cs) ∨ (s.mem k = none ∧ k < s.n)) ∧ cL P ops dr K rest (b0 az R) ((s.over aG).put dst r)) : cL P ops dr K (⟨dst, .call ⟨.value g, l.toArray, aS⟩, ty, pos, after, guard⟩ :: rest) R s := by
 refine ⟨true, hw, Lf hd, .inr (.inr (.inr (.inr (.inl ⟨rfl, hm, f, args, m0, R0, Post, ⟨⟨_, g, rfl, rfl, .inl ⟨bs, aw, ?_, ab⟩⟩, E.h⟩, hp, ay, pz, aq, fG, fun r aG az h1 _ _ _ => h r aG az h1⟩))))⟩;simpa using aK
theorem TT (g e off : Nat) (cs : List AC) : mU g off = jg (iE g e cs).v off := by
 show mU g off = .pointer (some ((⟨g, 0, none⟩ : Addr).add off));rw [Br, jH]
theorem tB {x : Operand} {d lt off g e : Nat} {cs : List AC} {c1 : AC} (i : Nat) [T : fO P lt false 1] (hi : R i = some (iE g e cs)) (hw : want ops ⟨some d, .load lt x, ty, pos, after, guard⟩ s = some true) (aa : s.look x = some (aQ (mU g off))) (aZ : cs[off]? = some c1) (ak : (aj.w (.one c1)).bb = true) (aq : tZ ops dr (some d) = true) (hd : Nat.blt d s.n = true) (h : cL P ops dr K rest R (s.put (some d) (.w (.one c1)))) : cL P ops dr K (⟨some d, .load lt x, ty, pos, after, guard⟩ :: rest) R s :=
 zc i hi hw (by rw [aa, TT g e off cs]) Nat.one_pos aZ ak aq hd h
end
theorem yT {P : Program} {fn : Func} {l : List ResultVar} {xs : List bI} {R R0 bl : aJ} {s : aC} {Post : aj → Mem → aJ → Prop} (aq : fn.results = l.toArray) (h : l.map (iw P s) = xs.map some) (ax : bM bl R) (aa : (packed xs).bb = true) (aH : ∀ i r, R0 i = some r → ∃ a7, bl i = some a7) (hp : Post (packed xs) cb bl) : tr P fn cb R0 Post R s :=
 ⟨xs, packed xs, cb, bl, by rw [aq]; exact h, .refl _, hp, fun k c h => (by cases h), ax, fun j ae => absurd ae (aj.dy aa j), fun k c x j h => (by cases h), fun k c h => (by cases h), aH⟩
theorem du.n4 {E : List (Int × b9)} {r rm : Nat} {s : bA.aW an} {cs : List AC} {R : aJ} (h : du E r rm s cs R) : R 9 = none ∧ cs.all AC.bb = true ∧ 0 < cs.length := by
 refine ⟨?_, h.closed, ?_⟩
 ·obtain ⟨_, _, _, _, _, _, _, _, _, _, rfl⟩ := h; rfl
 ·obtain ⟨_, _, _, _, _, _, _, _, _, rfl, _⟩ := h; exact jd _
section
variable {E : List (Int × b9)} {r rm : Nat}
theorem D9 {f : FuncId} {s s1 : bA.aW an} {v : aj} {cs : List AC} {R : aJ} (Hj : v.bb = true) (hp : fT E r rm f [] s v s1) (br : du E r rm s cs R) (g e : Nat) : c6 ai f [aQ (dR g)] cb (bQ R 9 (iE g e cs)) fun ca aG az => ∃ au bl bw, (ca = v ∧ du E r rm s1 au bl) ∧ aG = cb ∧ az = bQ bl 9 (iE g bw au) := by
 have h := (hp cs R br).afg 9 g e rfl br.n4.2.1 br.n4.2.2 br.n4.1 (fun ca aG az al => by
  obtain ⟨au, rfl, rfl, al⟩ := al;exact ⟨Hj, al.n4.1, au, rfl, al.n4.2.1, al.n4.2.2⟩)
 refine ⟨fun U ad W vs cK ef dJ => (h.call U ad W vs cK ef dJ).mono ?_⟩;rintro dp bo ⟨v1, cQ, aG, az, bg, cC, cY, ⟨au, bl, bw, ⟨sZ, he, al⟩, rfl, rfl⟩, lV⟩
 have : sZ = au := by
  have h1 : cI 1000 au 1000 = some au := by unfold cI; exact cr _ _ _
  rw [he] at h1;exact (hl h1).2.symm
 subst this;exact ⟨v1, cQ, cb, _, bg, cC, cY, ⟨sZ, bl, bw, al, rfl, rfl⟩, lV⟩
theorem D8 {f : FuncId} {args : List aj} {s s1 : bA.aW an} {v : aj} (Hj : v.bb = true) (ea : args.all aj.bb = true) (h : ∀ cs R, du E r rm s cs R → ∀ g e, c6 ai f (aQ (dR g) :: args) cb (bQ R 9 (iE g e cs)) fun ca aG az => ∃ au bl bw, (ca = v ∧ du E r rm s1 au bl) ∧ aG = cb ∧ az = bQ bl 9 (iE g bw au)) : fT E r rm f args s v s1 := by
 intro cs R br;refine c6.aff 9 (fun g e => ?_) ea br.n4.2.1 br.n4.2.2 br.n4.1 (fun ca au az al => ?_)
 ·refine ⟨fun U ad W vs cK ef dJ => ((h cs R br g e).call U ad W vs cK ef dJ).mono ?_⟩;rintro dp bo ⟨v1, cQ, aG, az, bg, cC, cY, ⟨au, bl, bw, al, rfl, rfl⟩, lV⟩;exact ⟨v1, cQ, cb, _, bg, cC, cY, ⟨au, bl, bw, ⟨au, rfl, al⟩, rfl, rfl⟩, lV⟩
 ·obtain ⟨sZ, he, rfl, al⟩ := al
  have : sZ = au := by
   have h1 : cI 1000 au 1000 = some au := by unfold cI; exact cr _ _ _
   rw [he] at h1;exact (hl h1).2.symm
  subst this;exact ⟨Hj, al.n4.1, al.n4.2.1, al.n4.2.2⟩
theorem D6 {s s1 : bA.aW an} {cs au : List AC} {R az : aJ} {g e bw : Nat} (h : du E r rm s cs R) (aF : du E r rm s1 au az) : ∀ i q, bQ R 9 (iE g e cs) i = some q → ∃ cA, bQ az 9 (iE g bw au) i = some cA := by
 obtain ⟨_, _, _, _, _, _, _, _, _, _, rfl⟩ := h;obtain ⟨_, _, _, _, _, _, _, _, _, _, rfl⟩ := aF;intro i q al
 by_cases qk : i = 9
 ·subst qk; exact ⟨_, cr _ _ _⟩
 ·rw [cl _ _ qk] at al;obtain ⟨cA, qw⟩ := fb i q al;exact ⟨cA, by rw [cl _ _ qk]; exact qw⟩
theorem D7 {s s1 : bA.aW an} {cs au : List AC} {R az : aJ} {g e bw : Nat} (h : du E r rm s cs R) (aF : du E r rm s1 au az) : b0 (bQ az 9 (iE g bw au)) (bQ R 9 (iE g e cs)) = bQ az 9 (iE g bw au) := by
 have ay := h.b0 aF;funext i
 by_cases qk : i = 9
 ·subst qk; exact (hn (cr _ _ _)).trans (cr _ _ _).symm
 ·have : b0 az R i = az i := congrFun ay i;unfold b0 at this ⊢;rw [cl _ _ qk, cl _ _ qk]; exact this
theorem Zy {s s1 : bA.aW an} (gU : s.ph = 0) (hp : fT E r rm 65 [] s ly s1) : fT E r rm 23 [] s (bE true) s1 := by
 refine D8 rfl rfl fun cs R br g e => ?_;have aM := D9 rfl hp br g e;obtain ⟨ph, I, J, T, dirty, hot, fnd, ch⟩ := s;obtain rfl : ph = 0 := gU;obtain ⟨hv, fv, cv, b, S, lk, hS, cR, fR, rfl, rfl⟩ := id br;refine dh (f := 23) Tryz.func23 rfl (de rfl) (by exact nm) ?_;(repeat first | (with_reducible first | apply bd | apply aX | apply a8 | apply aY) | (with_reducible apply aN); exact rfl; (repeat first | (with_reducible apply aA); exact rfl | (with_reducible apply sS); (iterate 3 exact rfl) | (with_reducible apply sQ); (iterate 3 exact rfl)); (with_reducible apply aB));refine tB 9 rfl rfl rfl rfl rfl rfl rfl ?_;(repeat first | (with_reducible first | apply bd | apply aX | apply a8 | apply aY | apply dm) | (with_reducible apply c8); exact rfl; ((simp only [iF]; (omega))) | (with_reducible apply aN); exact rfl; (repeat first | (with_reducible apply aA); exact rfl | (with_reducible apply x9); (iterate 4 exact rfl) | (with_reducible apply sS); (iterate 3 exact rfl) | (with_reducible apply sQ); (iterate 3 exact rfl)); (with_reducible apply aB));refine tB 9 rfl rfl rfl rfl rfl rfl rfl ?_;(repeat first | (with_reducible apply aN); exact rfl; (repeat first | (with_reducible apply aA); exact rfl); (with_reducible apply aB));refine CQ (bs := [dR g]) (args := [aQ (dR g)]) (l := []) rfl rfl rfl rfl rfl aM (fun x aa j ae => by simp at aa; subst aa; exact absurd ae (iO _ j)) (fun k c h => by cases h) (bM.refl _) (fun k c x j h => by cases h) rfl (fun ca aG az al => ?_);obtain ⟨au, bl, bw, ⟨rfl, ck⟩, rfl, rfl⟩ := al;refine ⟨fun k c h => (by cases h), ?_⟩;rw [D7 br ck, tS];(repeat first | (with_reducible first | apply bd | apply aX | apply a8 | apply aY | apply dA) | (with_reducible apply aN); exact rfl; (repeat first | (with_reducible apply aA); exact rfl); (with_reducible apply aB))
 ((refine yT rfl (bC rfl bf) (bM.refl _) rfl (D6 br ck) ?_))
 exact ⟨au, bl, bw, ⟨rfl, ck⟩, rfl, rfl⟩
theorem Zz {s s1 : bA.aW an} (gU : s.ph = 1) (hp : fT E r rm 66 [] s ly s1) : fT E r rm 23 [] s (bE true) s1 := by
 refine D8 rfl rfl fun cs R br g e => ?_;have aM := D9 rfl hp br g e;obtain ⟨ph, I, J, T, dirty, hot, fnd, ch⟩ := s;obtain rfl : ph = 1 := gU;obtain ⟨hv, fv, cv, b, S, lk, hS, cR, fR, rfl, rfl⟩ := id br;refine dh (f := 23) Tryz.func23 rfl (de rfl) (by exact nm) ?_;(repeat first | (with_reducible first | apply bd | apply aX | apply a8 | apply aY) | (with_reducible apply aN); exact rfl; (repeat first | (with_reducible apply aA); exact rfl | (with_reducible apply sS); (iterate 3 exact rfl) | (with_reducible apply sQ); (iterate 3 exact rfl)); (with_reducible apply aB));refine tB 9 rfl rfl rfl rfl rfl rfl rfl ?_;(repeat first | (with_reducible first | apply bd | apply aX | apply a8 | apply aY | apply dm) | (with_reducible apply c8); exact rfl; ((simp only [iF]; (omega))) | (with_reducible apply aN); exact rfl; (repeat first | (with_reducible apply aA); exact rfl | (with_reducible apply x9); (iterate 4 exact rfl) | (with_reducible apply sS); (iterate 3 exact rfl) | (with_reducible apply sQ); (iterate 3 exact rfl)); (with_reducible apply aB));refine tB 9 rfl rfl rfl rfl rfl rfl rfl ?_;(repeat first | (with_reducible apply aN); exact rfl; (repeat first | (with_reducible apply aA); exact rfl); (with_reducible apply aB));refine CQ (bs := [dR g]) (args := [aQ (dR g)]) (l := []) rfl rfl rfl rfl rfl aM (fun x aa j ae => by simp at aa; subst aa; exact absurd ae (iO _ j)) (fun k c h => by cases h) (bM.refl _) (fun k c x j h => by cases h) rfl (fun ca aG az al => ?_);obtain ⟨au, bl, bw, ⟨rfl, ck⟩, rfl, rfl⟩ := al;refine ⟨fun k c h => (by cases h), ?_⟩;rw [D7 br ck, tS];(repeat first | (with_reducible first | apply bd | apply aX | apply a8 | apply aY | apply dA) | (with_reducible apply aN); exact rfl; (repeat first | (with_reducible apply aA); exact rfl); (with_reducible apply aB))
 ((refine yT rfl (bC rfl bf) (bM.refl _) rfl (D6 br ck) ?_))
 exact ⟨au, bl, bw, ⟨rfl, ck⟩, rfl, rfl⟩
theorem ZA {s s1 : bA.aW an} (gU : s.ph = 2) (hp : fT E r rm 67 [] s ly s1) : fT E r rm 23 [] s (bE true) s1 := by
 refine D8 rfl rfl fun cs R br g e => ?_;have aM := D9 rfl hp br g e;obtain ⟨ph, I, J, T, dirty, hot, fnd, ch⟩ := s;obtain rfl : ph = 2 := gU;obtain ⟨hv, fv, cv, b, S, lk, hS, cR, fR, rfl, rfl⟩ := id br;refine dh (f := 23) Tryz.func23 rfl (de rfl) (by exact nm) ?_;(repeat first | (with_reducible first | apply bd | apply aX | apply a8 | apply aY) | (with_reducible apply aN); exact rfl; (repeat first | (with_reducible apply aA); exact rfl | (with_reducible apply sS); (iterate 3 exact rfl) | (with_reducible apply sQ); (iterate 3 exact rfl)); (with_reducible apply aB));refine tB 9 rfl rfl rfl rfl rfl rfl rfl ?_;(repeat first | (with_reducible first | apply bd | apply aX | apply a8 | apply aY | apply dm) | (with_reducible apply c8); exact rfl; ((simp only [iF]; (omega))) | (with_reducible apply aN); exact rfl; (repeat first | (with_reducible apply aA); exact rfl | (with_reducible apply x9); (iterate 4 exact rfl) | (with_reducible apply sS); (iterate 3 exact rfl) | (with_reducible apply sQ); (iterate 3 exact rfl)); (with_reducible apply aB));refine tB 9 rfl rfl rfl rfl rfl rfl rfl ?_;(repeat first | (with_reducible apply aN); exact rfl; (repeat first | (with_reducible apply aA); exact rfl); (with_reducible apply aB));refine CQ (bs := [dR g]) (args := [aQ (dR g)]) (l := []) rfl rfl rfl rfl rfl aM (fun x aa j ae => by simp at aa; subst aa; exact absurd ae (iO _ j)) (fun k c h => by cases h) (bM.refl _) (fun k c x j h => by cases h) rfl (fun ca aG az al => ?_);obtain ⟨au, bl, bw, ⟨rfl, ck⟩, rfl, rfl⟩ := al;refine ⟨fun k c h => (by cases h), ?_⟩;rw [D7 br ck, tS];(repeat first | (with_reducible first | apply bd | apply aX | apply a8 | apply aY | apply dA) | (with_reducible apply aN); exact rfl; (repeat first | (with_reducible apply aA); exact rfl); (with_reducible apply aB))
 ((refine yT rfl (bC rfl bf) (bM.refl _) rfl (D6 br ck) ?_))
 exact ⟨au, bl, bw, ⟨rfl, ck⟩, rfl, rfl⟩
theorem ZB {s s1 : bA.aW an} (gU : s.ph = 3) (hp : fT E r rm 68 [] s ly s1) : fT E r rm 23 [] s (bE true) s1 := by
 refine D8 rfl rfl fun cs R br g e => ?_;have aM := D9 rfl hp br g e;obtain ⟨ph, I, J, T, dirty, hot, fnd, ch⟩ := s;obtain rfl : ph = 3 := gU;obtain ⟨hv, fv, cv, b, S, lk, hS, cR, fR, rfl, rfl⟩ := id br;refine dh (f := 23) Tryz.func23 rfl (de rfl) (by exact nm) ?_;(repeat first | (with_reducible first | apply bd | apply aX | apply a8 | apply aY) | (with_reducible apply aN); exact rfl; (repeat first | (with_reducible apply aA); exact rfl | (with_reducible apply sS); (iterate 3 exact rfl) | (with_reducible apply sQ); (iterate 3 exact rfl)); (with_reducible apply aB));refine tB 9 rfl rfl rfl rfl rfl rfl rfl ?_;(repeat first | (with_reducible first | apply bd | apply aX | apply a8 | apply aY | apply dm) | (with_reducible apply c8); exact rfl; ((simp only [iF]; (omega))) | (with_reducible apply aN); exact rfl; (repeat first | (with_reducible apply aA); exact rfl | (with_reducible apply x9); (iterate 4 exact rfl) | (with_reducible apply sS); (iterate 3 exact rfl) | (with_reducible apply sQ); (iterate 3 exact rfl)); (with_reducible apply aB));refine tB 9 rfl rfl rfl rfl rfl rfl rfl ?_;(repeat first | (with_reducible apply aN); exact rfl; (repeat first | (with_reducible apply aA); exact rfl); (with_reducible apply aB));refine CQ (bs := [dR g]) (args := [aQ (dR g)]) (l := []) rfl rfl rfl rfl rfl aM (fun x aa j ae => by simp at aa; subst aa; exact absurd ae (iO _ j)) (fun k c h => by cases h) (bM.refl _) (fun k c x j h => by cases h) rfl (fun ca aG az al => ?_);obtain ⟨au, bl, bw, ⟨rfl, ck⟩, rfl, rfl⟩ := al;refine ⟨fun k c h => (by cases h), ?_⟩;rw [D7 br ck, tS];(repeat first | (with_reducible first | apply bd | apply aX | apply a8 | apply aY | apply dA) | (with_reducible apply aN); exact rfl; (repeat first | (with_reducible apply aA); exact rfl); (with_reducible apply aB))
 ((refine yT rfl (bC rfl bf) (bM.refl _) rfl (D6 br ck) ?_))
 exact ⟨au, bl, bw, ⟨rfl, ck⟩, rfl, rfl⟩
theorem Ny {s : bA.aW an} (gU : 4 ≤ s.ph) (ahp : s.ph ≤ 5) : fT E r rm 23 [] s (bE false) s := by
 intro cs R br;obtain ⟨hv, fv, cv, b, S, lk, hS, cR, fR, rfl, rfl⟩ := id br;have aL : (s.ph : Int) ≥ 4 := by omega
 refine dh (f := 23) Tryz.func23 rfl (de rfl) (by exact ej rfl) ?_;(repeat first | (with_reducible first | apply bd | apply aX | apply a8 | apply aY | apply dA | apply kt) | (with_reducible apply eu); exact rfl; (exact bG (by omega)) | (with_reducible apply aN); exact rfl; (repeat first | (with_reducible apply aA); exact rfl | (with_reducible apply c3); (iterate 3 exact rfl)); (with_reducible apply aB))
 ((refine eK rfl (bC rfl bf) rfl (bM.refl _) br.closed rfl fb ?_))
 exact ⟨_, rfl, rfl, br⟩
end
section
variable {E : List (Int × b9)} {r rm : Nat}
abbrev mF (E : List (Int × b9)) (r rm : Nat) (s : bA.aW an) : Prop := hP (bz E r rm) (xk (E.map Prod.snd) r) s
structure iC (E : List (Int × b9)) (r rm : Nat) : Prop where
 r : r ≤ 28
 near : gw (E.map Prod.snd) = true
 len : E.length ≤ 300
 pos : 1 ≤ rm
 room : rm ≤ 1024
theorem iC.ok (h : iC E r rm) : kb (bz E r rm) (xk (E.map Prod.snd) r) := adW h.r h.near
theorem iC.n (E : List (Int × b9)) (r rm : Nat) : (bz E r rm).n = E.length := mu ..
theorem iC.wq (h : iC E r rm) {s : bA.aW an} (ab : jP (bz E r rm) s) (ao : k4 (bz E r rm) (xk (E.map Prod.snd) r) s) : j8 s.ch := by
 have hlen := ao.len;rw [iC.n] at hlen;refine ⟨by have := h.len; omega, fun c ak => ?_⟩;obtain ⟨i, hi⟩ := jZ ak;have h1 := (Lc h.ok ab ao ak).1;have h2 : (bz E r rm).R = rm := rfl;have := h.room;exact ⟨(ao.h7 i c hi).len, by omega⟩
theorem iC.hot (h : iC E r rm) {s : bA.aW an} (ab : jP (bz E r rm) s) : s.hot.length ≤ 1024 := by
 have h1 := ab.room;have h2 : (bz E r rm).R = rm := rfl;have := h.room;omega
theorem HB {s : bA.aW an} (h : iC E r rm) (br : mF E r rm s) : fT E r rm 23 [] s (bE (decide (s.ph < 4))) (eN (bz E r rm) s) := by
 obtain ⟨ab, aH | h1 | h2 | ap | aL | dk⟩ := br
 ·have e : eN (bz E r rm) s = s9 (bz E r rm) s := by simp only [eN, aH.ph]
  rw [e, aH.ph];have hi := aH.I;rw [iC.n] at hi;exact Zy aH.ph (ZD h.r h.near h.len hi aH.dirty aH.fnd (h.hot ab) aH.ph)
 ·have e : eN (bz E r rm) s = tT (bz E r rm) s := by simp only [eN, h1.ph]
  rw [e, h1.ph];have hi := h1.J;rw [iC.n] at hi;exact Zz h1.ph (ZF h.r h.near h.len h1.xS hi h1.dirty h1.fnd (h.hot ab) h1.ph)
 ·obtain ⟨c, p, q, g1, g2, g3, ar⟩ := h2.link;have g4 := cp h2.T;generalize s.hot[s.T]'h2.T = x at g4
  have e : eN (bz E r rm) s = r5 (bz E r rm) s c p q (lb (bz E r rm) p q x s.fnd) := by
   simp only [eN, h2.ph, xw, g1, g2, g3, g4]
  rw [e, h2.ph];have ak := h2.laid.h7 _ _ g1;have hd := Lc h.ok ab h2.laid (dG g1);have ax : (bz E r rm).R = rm := rfl;have ahu := h.room;obtain ⟨V, D⟩ := c;have hp := ab.gQ _ (ak.hot p (dG g2));have al := ab.gQ _ (ak.hot q (dG g3));have a6 := h.hot ab
  have wT : (lb (bz E r rm) p q x s.fnd) = (s.hot.take (s.T + 1)).filter (iX (bz E r rm) p q) := by
   rw [LI g4, ar];unfold lb
   split <;> simp [*]
  refine ZA h2.ph (ZG h.r (h.wq ab h2.laid) g1 g2 g3 g4 (fun d rO => ?_) hp al h2.dirty a6 ?_ ?_ h2.ph)
  ·have := hd.2 d rO; omega
  ·rw [ar];refine kS (List.length_filter_le ..) ?_;rw [eh]; omega
  ·rw [wT];exact (ab.nd.sublist (List.take_sublist ..)).filter _
 ·have e : eN (bz E r rm) s = r7 (bz E r rm) s := by simp only [eN, ap.ph]
  rw [e, ap.ph];have ak := h.wq ab ap.laid;refine ZB ap.ph (ZE h.r ak ?_ ap.xS ap.J (fun l ao => ?_) ap.fnd (h.hot ab) ap.ph)
  ·have := ap.J;cases Xo : s.ch with
   | nil => rw [Xo] at this; simp [bc] at this
   | cons => exact jd _
  ·obtain ⟨_, a1, a2⟩ := Dd h.ok ap.laid ao;exact ⟨ab.gQ _ a1, ab.gQ _ a2⟩
 ·have e : eN (bz E r rm) s = s := by simp only [eN, aL.ph]
  rw [e, aL.ph];exact Ny (by rw [aL.ph]; decide) (by rw [aL.ph]; decide)
 ·have e : eN (bz E r rm) s = s := by simp only [eN, dk.ph]
  rw [e, dk.ph];exact Ny (by rw [dk.ph]; decide) (by rw [dk.ph]; decide)
end
section
variable {E : List (Int × b9)} {r rm : Nat}
theorem Nw {s : bA.aW an} : fT E r rm 24 [] s (aT s.ph) s := by
 intro cs R br;obtain ⟨hv, fv, cv, b, S, lk, hS, cR, fR, rfl, rfl⟩ := id br;refine dh (f := 24) Tryz.func24 rfl (de rfl) (by exact ej rfl) ?_;(repeat first | (with_reducible first | apply bd | apply aX | apply a8 | apply aY | apply dA) | (with_reducible apply aN); exact rfl; (repeat first | (with_reducible apply aA); exact rfl | (with_reducible apply c3); (iterate 3 exact rfl)); (with_reducible apply aB))
 ((refine eK rfl (bC rfl bf) rfl (bM.refl _) br.closed rfl fb ?_))
 exact ⟨_, rfl, rfl, br⟩
def Sp (E : List (Int × b9)) (r rm : Nat) (n : Int) (s : bA.aW an) (k : Nat) (R : aJ) (aS : List (Nat × aj)) (bF : List (Nat × List AC)) : Prop :=
 ∃ (d : Nat) (s1 : bA.aW an) (hv fv cv : Value) (b : Nat) (S : e2) (lk : AC), k = n.toNat - d ∧ d ≤ n.toNat ∧ mF E r rm s1 ∧ eH (bz E r rm) n.toNat s = ((eH (bz E r rm) k s1).1 + d, (eH (bz E r rm) k s1).2) ∧ du E r rm s1 (et E r rm s1.ph s1.I s1.J s1.T s1.dirty hv fv cv b lk) (dH b S hv fv cv s1.hot s1.fnd s1.ch) ∧ lk.bb = true ∧ R = dH b S hv fv cv s1.hot s1.fnd s1.ch ∧ aS = [(0, qX), (1, aT n), (5, aT d)] ∧ bF = [(1000, et E r rm s1.ph s1.I s1.J s1.T s1.dirty hv fv cv b lk)]
theorem C6 {s : bA.aW an} (h : iC E r rm) (hs : mF E r rm s) {n : Int} (aE : n ≤ 1000000000000) : fT E r rm 41 [aT n] s (aT (eH (bz E r rm) n.toNat s).1) (eH (bz E r rm) n.toNat s).2 := by
 intro cs R br;obtain ⟨hv, fv, cv, b, S, lk, hS, cR, fR, rfl, rfl⟩ := id br;refine dh (f := 41) Tryz.func41 rfl (de rfl) (by exact ej rfl) ?_;(repeat first | (with_reducible first | apply bd | apply aX | apply a8 | apply aY | apply fZ) | (with_reducible apply aN); exact rfl; (repeat first | (with_reducible apply aA); exact rfl); (with_reducible apply aB));refine mx 16 (Sp E r rm n s) n.toNat (dH b S hv fv cv s.hot s.fnd s.ch) _ [(1000, et E r rm s.ph s.I s.J s.T s.dirty hv fv cv b lk)] ⟨0, s, hv, fv, cv, b, S, lk, rfl, eF _, hs, rfl, br, cR, rfl, rfl, rfl⟩ (bM.refl _) rfl ⟨rfl, rfl, rfl, trivial⟩ ⟨rfl, trivial⟩ ?_ ?_
 ·cases lk <;> first | rfl | cases cR
 clear br hS cR fR;rintro k R aS bF ⟨d, s1, hv, fv, cv, b, S, lk, rfl, hd, ol, gv, br, cR, rfl, rfl, rfl⟩ ee;clear ee
 by_cases bj : d < n.toNat
 ·have q1 : (d : Int) < n := by omega
  have cY : (0 : Int) ≤ (d : Int) := by omega
  obtain ⟨bB, qu⟩ : ∃ bB, n.toNat - d = bB + 1 := ⟨n.toNat - d - 1, by omega⟩;have aM := HB h ol;have hinv := (xE h.ok ol)
  by_cases aL : s1.ph < 4
  ·rw [bG aL] at aM;(repeat first | (with_reducible first | apply bd | apply a8) | (with_reducible apply aN); exact rfl; (repeat first | (with_reducible apply aA); exact rfl | (with_reducible apply dv (c := true)); exact rfl; exact rfl; (exact bG (by omega))); (with_reducible apply aB));refine hV rfl rfl rfl rfl rfl rfl rfl rfl aM br (fun au az ck => ?_);obtain ⟨b8, c4, cU, bO, da, gJ, fk, gS, ic, rfl, rfl⟩ := id ck;(repeat first | (with_reducible first | apply aX | apply a8 | apply aY | apply dm | apply fZ | apply ls) | (with_reducible apply eu); exact rfl; (exact rfl) | (with_reducible apply aN); exact rfl; (repeat first | (with_reducible apply aA); exact rfl | (with_reducible apply fe); (iterate 3 exact rfl); (exact cX (by omega)); exact rfl); (with_reducible apply aB));refine ⟨bB, _, _, [(1000, et E r rm (eN (bz E r rm) s1).ph (eN (bz E r rm) s1).I (eN (bz E r rm) s1).J (eN (bz E r rm) s1).T (eN (bz E r rm) s1).dirty b8 c4 cU bO gJ)], by omega, ⟨d + 1, eN (bz E r rm) s1, b8, c4, cU, bO, da, gJ, by omega, by omega, hinv.1, ?_, ck, gS, rfl, rfl, rfl⟩, bM.refl _, rfl, ⟨rfl, rfl, rfl, trivial⟩, ⟨rfl, trivial⟩, ?_⟩
   ·rw [gv, qu];have Cm : ¬ 4 ≤ s1.ph := by omega
    have e : eH (bz E r rm) (bB + 1) s1 = ((eH (bz E r rm) bB (eN (bz E r rm) s1)).1 + 1, (eH (bz E r rm) bB (eN (bz E r rm) s1)).2) := if_neg Cm;rw [e];exact Prod.ext (by show _ + 1 + d = _ + (d + 1); omega) rfl
   ·cases gJ <;> first | rfl | cases gS
  ·have Cm : 4 ≤ s1.ph := by omega
   rw [b3 aL, hinv.2.2 Cm] at aM;rw [aeb Cm] at gv;have gv : eH (bz E r rm) n.toNat s = (d, s1) := by rw [gv]; exact Prod.ext (jH d) rfl
   (repeat first | (with_reducible first | apply bd | apply a8) | (with_reducible apply aN); exact rfl; (repeat first | (with_reducible apply aA); exact rfl | (with_reducible apply dv (c := true)); exact rfl; exact rfl; (exact bG (by omega))); (with_reducible apply aB));refine hV rfl rfl rfl rfl rfl rfl rfl rfl aM br (fun au az ck => ?_);obtain ⟨b8, c4, cU, bO, da, gJ, fk, gS, ic, rfl, rfl⟩ := id ck;(repeat first | (with_reducible first | apply bd | apply aX | apply a8 | apply aY | apply dA | apply kX | apply kZ | apply kY) | (with_reducible apply c8); exact rfl; (exact rfl) | (with_reducible apply aN); exact rfl; (repeat first | (with_reducible apply aA); exact rfl); (with_reducible apply aB))
   ((refine eK rfl (bC rfl bf) rfl (bM.refl _) ck.closed rfl fb ?_))
   refine ⟨_, rfl, ?_, ?_⟩
   ·rw [gv]; rfl
   ·rw [gv]; exact ck
 ·have q1 : ¬ (d : Int) < n := by omega
  have hc : n.toNat - d = 0 := by omega
  rw [hc] at gv;have gv : eH (bz E r rm) n.toNat s = (d, s1) := by rw [gv]; exact Prod.ext (jH d) rfl
  (repeat first | (with_reducible first | apply bd | apply aX | apply a8 | apply aY | apply dA | apply kX | apply kZ | apply kY) | (with_reducible apply c8); exact rfl; (exact rfl) | (with_reducible apply aN); exact rfl; (repeat first | (with_reducible apply aA); exact rfl | (with_reducible apply dv (c := false)); exact rfl; exact rfl; (exact b3 (by omega))); (with_reducible apply aB))
  ((refine eK rfl (bC rfl bf) rfl (bM.refl _) br.closed rfl fb ?_))
  refine ⟨_, rfl, ?_, ?_⟩
  ·rw [gv]; rfl
  ·rw [gv]; exact br
def uL (ch : List (List an × List Int)) : Int := ch.foldl (fun a c => max a (pi c.2)) 0
theorem UZ {ch : List (List an × List Int)} {k : Nat} {c : List an × List Int} (h : ch[k]? = some c) : uL (ch.take (k + 1)) = max (uL (ch.take k)) (pi c.2) := by
 have af := (bX.1 h).1
 have e : ch.take (k + 1) = ch.take k ++ [c] := by
  rw [oO af, (bX.1 h).2]
 unfold uL;rw [e, List.foldl_append]; rfl
def RG (E : List (Int × b9)) (r rm : Nat) (s : bA.aW an) (hv fv cv : Value) (b : Nat) (S : e2) (lk : AC) (n : Nat) (R : aJ) (aS : List (Nat × aj)) (bF : List (Nat × List AC)) : Prop :=
 ∃ (k : Nat) (fg d : Int), k ≤ s.ch.length ∧ n = s.ch.length - k ∧ fg = k ∧ d = uL (s.ch.take k) ∧ R = dH b S hv fv cv s.hot s.fnd s.ch ∧ aS = [(3, aT d), (10, aQ cv), (11, aT s.ch.length), (12, aT fg)] ∧ bF = [(1000, et E r rm s.ph s.I s.J s.T s.dirty hv fv cv b lk)]
theorem Zn {s : bA.aW an} (ak : j8 s.ch) : fT E r rm 25 [] s (aT (uL s.ch)) s := by
 intro cs R br;obtain ⟨hv, fv, cv, b, S, lk, hS, cR, fR, rfl, rfl⟩ := id br;refine dh (f := 25) Tryz.func25 rfl (de rfl) (by exact ej rfl) ?_;(repeat first | (with_reducible first | apply bd | apply aX | apply a8 | apply aY | apply fZ) | (with_reducible apply aN); exact rfl; (repeat first | (with_reducible apply aA); exact rfl | (with_reducible apply c3); (iterate 3 exact rfl)); (with_reducible apply aB) | (with_reducible apply nA 3); (iterate 4 exact rfl); kernel_rfl; exact rfl);refine mx 22 (RG E r rm s hv fv cv b S lk) s.ch.length (dH b S hv fv cv s.hot s.fnd s.ch) _ [(1000, et E r rm s.ph s.I s.J s.T s.dirty hv fv cv b lk)] ⟨0, 0, 0, eF _, rfl, rfl, rfl, rfl, rfl, rfl⟩ (bM.refl _) rfl ⟨rfl, rfl, rfl, rfl, trivial⟩ ⟨rfl, trivial⟩ ?_ ?_
 ·cases lk <;> first | rfl | cases cR
 rintro n R aS bF ⟨k, fg, d, af, rfl, km, lL, rfl, rfl, rfl⟩ ee;clear ee;have hlen := ak.1
 by_cases al : k < s.ch.length
 ·obtain ⟨V, D, g1⟩ : ∃ V D, s.ch[k]? = some (V, D) := ⟨_, _, cp al⟩;obtain ⟨jU, hB⟩ := ak.2 _ (dG g1);simp only at jU hB;obtain ⟨j9, na⟩ := BM (ii := fg) km g1;have q2 : fg < (s.ch.length : Int) := by omega
  have cg : 0 ≤ fg := by omega
  have ep : 0 < s.ch.length := by omega
  have aD := UZ g1;rw [← lL, show max d (pi (V, D).2) = if pi D > d then pi D else d by show max d (pi D) = _; split <;> omega] at aD;have aM := Zm V D hB (by omega);(repeat first | (with_reducible first | apply bd | apply aX | apply a8 | apply aY | apply dm | apply fZ | apply ls) | (with_reducible apply eu); exact rfl; (exact bG (by omega)) | (with_reducible apply aN); exact rfl; (repeat first | (with_reducible apply aA); exact rfl | (with_reducible apply fe); (iterate 3 exact rfl); (exact cX (by omega)); exact rfl | (with_reducible apply sR); (iterate 4 exact rfl) | refine eO rfl rfl rfl (by (exact aM)) rfl ?_); (with_reducible apply aB) | (with_reducible apply jy 3); (iterate 4 exact rfl); (omega); (assumption); exact rfl; kernel_rfl; exact rfl | (with_reducible apply nB 3); (iterate 3 exact rfl); (assumption); assumption; exact rfl; kernel_rfl; exact rfl);refine ⟨s.ch.length - (k + 1), dH b S hv fv cv s.hot s.fnd s.ch, _, [(1000, et E r rm s.ph s.I s.J s.T s.dirty hv fv cv b lk)], by omega, ⟨k + 1, fg + 1, _, by omega, rfl, by omega, aD.symm, rfl, rfl, rfl⟩, bM.refl _, rfl, ⟨rfl, rfl, rfl, rfl, trivial⟩, ⟨rfl, trivial⟩, ?_⟩;cases lk <;> first | rfl | cases cR
 ·have q2 : ¬ fg < (s.ch.length : Int) := by omega
  have dp : s.ch.take k = s.ch := h0 (by omega);rw [dp] at lL;(repeat first | (with_reducible first | apply bd | apply aX | apply a8 | apply aY | apply dA | apply kX | apply kZ | apply kY) | (with_reducible apply c8); exact rfl; (exact b3 (by omega)) | (with_reducible apply aN); exact rfl; (repeat first | (with_reducible apply aA); exact rfl); (with_reducible apply aB))
  ((refine eK rfl (bC rfl bf) rfl (bM.refl _) br.closed rfl fb ?_))
  exact ⟨_, rfl, by rw [← lL]; rfl, br⟩
end
theorem J9 {n : Nat} {xs : List AC} (aE : n ≤ 900000) (ak : xs.all AC.bb = true) (aa : xs.length = 2 * n) : oV ai 131 [cM 2 n xs] fun v q => ∃ aV, v = aQ aV ∧ q = ⟨59, 2, aV, n, xs⟩ := by
 refine Fc rfl (fun v q h => by obtain ⟨aV, rfl, _⟩ := h; rfl) ?_;refine dh (f := 131) Tryz.func131 rfl (de rfl) (by exact nm) ?_;(repeat first | (with_reducible first | apply bd | apply aX | apply a8 | apply aY) | (with_reducible apply aN); exact rfl; (repeat first | (with_reducible apply aA); exact rfl | (with_reducible apply Fg); (iterate 3 exact rfl)); (with_reducible apply aB));refine Qt 4 rfl ?_;intro b ab;cases b with
 | true =>
  have aH := ab rfl;subst aH;have h1 := mv aa;subst h1;clear ab;refine nQ 0 59 2 rfl ?_;(repeat first | (with_reducible first | apply bd | apply aX | apply a8 | apply aY | apply dA | apply kt) | (with_reducible apply eu); exact rfl; (assumption) | (with_reducible apply aN); exact rfl; (repeat first | (with_reducible apply aA); exact rfl); (with_reducible apply aB))
  ((refine yU rfl (bC rfl bf) rfl rfl (jd _) ?_))
  exact ⟨.slice none 0 0, rfl, rfl⟩
 | false =>
  clear ab;(repeat first | (with_reducible first | apply bd | apply aX | apply a8 | apply dm) | (with_reducible apply c8); exact rfl; (exact rfl));refine MS 0 rfl rfl rfl rfl rfl (fun v0 rW => ?_);(repeat first | (with_reducible apply aN); exact rfl; (repeat first | (with_reducible apply aA); exact rfl); (with_reducible apply aB));refine qx 0 rfl rfl rfl rfl ?q1 ?q2 ak rfl (fun v1 iL => ?_)
  case q1 => exact kO (by show 0 + n ≤ 1000000; omega)
  case q2 => show (0 + n) * 16 ≤ 140737488355328; omega
  (repeat first | (with_reducible first | apply aX | apply aY | apply dA) | (with_reducible apply aN); exact rfl; (repeat first | (with_reducible apply aA); exact rfl); (with_reducible apply aB))
  ((refine yU rfl (bC rfl bf) rfl rfl (jd _) ?_))
  exact ⟨v1, rfl, by rw [List.nil_append, jH]⟩
theorem SL {n : Nat} {xs : List AC} (aE : n ≤ 900000) (ak : xs.all AC.bb = true) (aa : xs.length = 2 * n) : oV ai 132 [cM 2 n xs] fun v q => ∃ aV, v = aQ aV ∧ q = ⟨53, 2, aV, n, xs⟩ := by
 refine Fc rfl (fun v q h => by obtain ⟨aV, rfl, _⟩ := h; rfl) ?_;refine dh (f := 132) Tryz.func132 rfl (de rfl) (by exact nm) ?_;(repeat first | (with_reducible first | apply bd | apply aX | apply a8 | apply aY) | (with_reducible apply aN); exact rfl; (repeat first | (with_reducible apply aA); exact rfl | (with_reducible apply Fg); (iterate 3 exact rfl)); (with_reducible apply aB));refine Qt 4 rfl ?_;intro b ab;cases b with
 | true =>
  have aH := ab rfl;subst aH;have h1 := mv aa;subst h1;clear ab;refine nQ 0 53 2 rfl ?_;(repeat first | (with_reducible first | apply bd | apply aX | apply a8 | apply aY | apply dA | apply kt) | (with_reducible apply eu); exact rfl; (assumption) | (with_reducible apply aN); exact rfl; (repeat first | (with_reducible apply aA); exact rfl); (with_reducible apply aB))
  ((refine yU rfl (bC rfl bf) rfl rfl (jd _) ?_))
  exact ⟨.slice none 0 0, rfl, rfl⟩
 | false =>
  clear ab;(repeat first | (with_reducible first | apply bd | apply aX | apply a8 | apply dm) | (with_reducible apply c8); exact rfl; (exact rfl));refine MS 0 rfl rfl rfl rfl rfl (fun v0 rW => ?_);(repeat first | (with_reducible apply aN); exact rfl; (repeat first | (with_reducible apply aA); exact rfl); (with_reducible apply aB));refine qx 0 rfl rfl rfl rfl ?q1 ?q2 ak rfl (fun v1 iL => ?_)
  case q1 => exact kO (by show 0 + n ≤ 1000000; omega)
  case q2 => show (0 + n) * 48 ≤ 140737488355328; omega
  (repeat first | (with_reducible first | apply aX | apply aY | apply dA) | (with_reducible apply aN); exact rfl; (repeat first | (with_reducible apply aA); exact rfl); (with_reducible apply aB))
  ((refine yU rfl (bC rfl bf) rfl rfl (jd _) ?_))
  exact ⟨v1, rfl, by rw [List.nil_append, jH]⟩
abbrev oR (k rm ph I J T : Int) (dirty : Bool) (hv fv cv : Value) : List AC := [.c (.int .i64 k), .c (.int .i64 rm), .c (.int .i64 ph), .c (.int .i64 I), .c (.int .i64 J), .c (.int .i64 T), .c (.bool dirty), .c hv, .c fv, .c cv]
abbrev sw (hv fv cv : Value) (hot fnd : List an) (ch : List (List an × List Int)) : aJ := bQ (bQ (bJ 1 (im hv hot)) 2 (im fv fnd)) 3 (wo cv ch)
abbrev lu (hv fv cv : Value) (hot fnd : List an) (ch : List (List an × List Int)) (R : aJ) : aJ := bQ (bQ (bQ R 4 (im hv hot)) 5 (im fv fnd)) 6 (wo cv ch)
theorem adS {hv fv cv : Value} {hot fnd : List an} {ch : List (List an × List Int)} {R : aJ} : bQ (lu hv fv cv hot fnd ch R) 6 (wo cv ch) = lu hv fv cv hot fnd ch R := by
 funext k
 by_cases hc : k = 6
 ·subst hc; rfl
 ·rw [cl _ _ hc]
theorem FF (ch : List (List an × List Int)) : (eC ch).length = 2 * ch.length := by
 unfold eC; induction ch with
 | nil => rfl
 | cons c l cw => rw [List.flatMap_cons, cS, cw, lr]; show 2 + _ = _; omega
theorem Un (ch : List (List an × List Int)) : ∀ y ∈ eC ch, y.bb = true := fun y ah => by
 obtain ⟨c, _, h⟩ := List.mem_flatMap.1 ah;simp only [pc, gM, qL, or_false] at h;rcases h with rfl | rfl <;> rfl
theorem Nn (l : List an) : ∀ y ∈ b5 l, y.bb = true := ct.1 (vf l)
theorem Up {ch : List (List an × List Int)} {i : Nat} {V : List an} {D : List Int} (h : ch[i]? = some (V, D)) : eA (eC ch) (2 * i) [.p (cB 2 V.length (b5 V)), .p (cB 1 D.length (cF D))] = eC ch := by
 have hi := (bX.1 h).1
 have e : ch = ch.take i ++ (V, D) :: ch.drop (i + 1) := by
  conv => lhs; rw [← kq i ch, mV hi, (bX.1 h).2]
 have aO : eC ch = eC (ch.take i) ++ ([.p (cB 2 V.length (b5 V)), .p (cB 1 D.length (cF D))] ++ eC (ch.drop (i + 1))) := by
  conv => lhs; rw [e]
  simp [eC, pc]
 have ao : (eC (ch.take i)).length = 2 * i := by rw [FF, eh]; congr 1; omega
 rw [aO, I0 ao];simp
def RE (hv fv cv b8 c4 cU : Value) (k rm ph I J T : Int) (dirty : Bool) (hot fnd : List an) (ch : List (List an × List Int)) (n : Nat) (R : aJ) (aS : List (Nat × aj)) (bF : List (Nat × List AC)) : Prop :=
 ∃ (i : Nat) (ii : Int), i ≤ ch.length ∧ n = ch.length - i ∧ ii = i ∧ R = lu b8 c4 cU hot fnd ch (sw hv fv cv hot fnd ch) ∧ aS = [(1, .w (.one (.own 1 0))), (2, .w (.one (.own 2 0))), (18, aQ cU), (19, aT ch.length), (20, aT ii)] ∧ bF = [(1, oR k rm ph I J T dirty b8 c4 cU), (2, oR 0 0 0 0 0 0 false (.slice none 0 0) (.slice none 0 0) (.slice none 0 0))]
theorem ZC {k rm ph I J T : Int} {dirty : Bool} {hv fv cv : Value} {hot fnd : List an} {ch : List (List an × List Int)} (a6 : hot.length ≤ 900000) (ar : fnd.length ≤ 900000) (ak : j8 ch) :
  c6 ai 70 [.w (.agg (oR k rm ph I J T dirty hv fv cv))] cb (sw hv fv cv hot fnd ch) fun ca aG az => ∃ b8 c4 cU, ca = .w (.agg (oR k rm ph I J T dirty b8 c4 cU)) ∧ aG = cb ∧ az = lu b8 c4 cU hot fnd ch (sw hv fv cv hot fnd ch) := by
 have hlen := ak.1;have kx : ∀ aU : List AC, aU.length = (im hv hot).aU.length → aU.all AC.bb = true → oV ai 131 [cM 2 hot.length aU] fun v q => ∃ aV, v = aQ aV ∧ q = ⟨59, 2, aV, hot.length, aU⟩ := fun aU ao ah => J9 a6 ah (by rw [ao, nG, Nat.mul_comm]);have nX : ∀ aU : List AC, aU.length = (im fv fnd).aU.length → aU.all AC.bb = true → oV ai 131 [cM 2 fnd.length aU] fun v q => ∃ aV, v = aQ aV ∧ q = ⟨59, 2, aV, fnd.length, aU⟩ := fun aU ao ah => J9 ar ah (by rw [ao, nG, Nat.mul_comm]);have uf : ∀ aU : List AC, aU.length = (wo cv ch).aU.length → aU.all AC.bb = true → oV ai 132 [cM 2 ch.length aU] fun v q => ∃ aV, v = aQ aV ∧ q = ⟨53, 2, aV, ch.length, aU⟩ := fun aU ao ah => SL (by omega) ah (by rw [ao, FF]);refine dh (f := 70) Tryz.func70 rfl (de rfl) (by exact nm) ?_;(repeat first | (with_reducible apply lx (id := 1) [0,1,3,4,6,7,2,9,5,8,10,11,12,13,14] [7,10,13]); kernel_rfl; kernel_rfl; exact rfl | (with_reducible first | apply bd | apply aX | apply a8 | apply aY) | (with_reducible apply aN); exact rfl; (repeat first | (with_reducible apply aA); exact rfl); (with_reducible apply aB));refine Hb 1 4 (by decide) rfl rfl rfl rfl kx rfl (jd _) (Nn _) rfl (fun b8 => ?_);(repeat first | (with_reducible apply aN); exact rfl; (repeat first | (with_reducible apply aA); exact rfl); (with_reducible apply aB));refine Hb 2 5 (by decide) rfl rfl rfl rfl nX rfl (jd _) (Nn _) rfl (fun c4 => ?_)
 skip
 refine Hb 3 6 (by decide) rfl rfl rfl rfl uf rfl (jd _) (Un _) rfl (fun cU => ?_);(repeat first | (with_reducible apply ey); kernel_rfl | (with_reducible first | apply bd | apply aX | apply a8 | apply aY | apply fZ) | (with_reducible apply aN); exact rfl; (repeat first | (with_reducible apply aA); exact rfl); (with_reducible apply aB) | (with_reducible apply nA 6); (iterate 4 exact rfl); kernel_rfl; exact rfl);refine mx 33 (RE hv fv cv b8 c4 cU k rm ph I J T dirty hot fnd ch) ch.length (lu b8 c4 cU hot fnd ch (sw hv fv cv hot fnd ch)) _ [(1, oR k rm ph I J T dirty b8 c4 cU), (2, oR 0 0 0 0 0 0 false (.slice none 0 0) (.slice none 0 0) (.slice none 0 0))] ⟨0, 0, eF _, rfl, rfl, rfl, rfl, rfl⟩ (bM.refl _) rfl ⟨rfl, rfl, rfl, rfl, rfl, trivial⟩ ⟨rfl, rfl, trivial⟩ rfl ?_;rintro n R aS bF ⟨i, ii, hi, rfl, hT, rfl, rfl, rfl⟩ ee;clear ee
 by_cases al : i < ch.length
 ·obtain ⟨V, D, g1⟩ : ∃ V D, ch[i]? = some (V, D) := ⟨_, _, cp al⟩;obtain ⟨jU, hB⟩ := ak.2 _ (dG g1);simp only at jU hB;obtain ⟨j9, na⟩ := BM (ii := ii) hT g1;have aM := Zl V D hB (by omega);have q2 : ii < (ch.length : Int) := by omega
  have cg : 0 ≤ ii := by omega
  have ep : 0 < ch.length := by omega
  have aI : ii.toNat * 2 = 2 * i := by omega
  have G3 : ii.toNat * 2 + 2 ≤ (eC ch).length := by rw [FF]; omega
  have cD : eA (eC ch) (ii.toNat * 2) [.p (cB 2 V.length (b5 V)), .p (cB 1 D.length (cF D))] = eC ch := by rw [aI]; exact Up g1
  (repeat first | (with_reducible apply lx (id := 5) [0,1,2,3,4,5,6] [4000000]); kernel_rfl; kernel_rfl; exact rfl | (with_reducible first | apply bd | apply aX | apply a8 | apply aY | apply dm | apply fZ) | (with_reducible apply eu); exact rfl; (exact bG (by omega)) | (with_reducible apply aN); exact rfl; (repeat first | (with_reducible apply aA); exact rfl | refine eO rfl rfl rfl (by (exact aM)) rfl ?_); (with_reducible apply aB) | (with_reducible apply jy 6); (iterate 4 exact rfl); (omega); (assumption); exact rfl; kernel_rfl; exact rfl | (with_reducible apply nB 6); (iterate 3 exact rfl); (assumption); assumption; exact rfl; kernel_rfl; exact rfl);refine zg 6 rfl rfl rfl rfl ep rfl rfl G3 rfl ?_;(repeat first | (with_reducible apply ey); kernel_rfl | (with_reducible first | apply aX | apply a8 | apply aY | apply ls) | (with_reducible apply aN); exact rfl; (repeat first | (with_reducible apply aA); exact rfl | (with_reducible apply fe); (iterate 3 exact rfl); (exact cX (by omega)); exact rfl); (with_reducible apply aB));refine ⟨ch.length - (i + 1), lu b8 c4 cU hot fnd ch (sw hv fv cv hot fnd ch), _, [(1, oR k rm ph I J T dirty b8 c4 cU), (2, oR 0 0 0 0 0 0 false (.slice none 0 0) (.slice none 0 0) (.slice none 0 0))], by omega, ⟨i + 1, ii + 1, by omega, rfl, by omega, rfl, rfl, rfl⟩, fun k q af => ?_, rfl, ⟨rfl, rfl, rfl, rfl, rfl, trivial⟩, ⟨rfl, rfl, trivial⟩, rfl⟩
  have eD : bQ (lu b8 c4 cU hot fnd ch (sw hv fv cv hot fnd ch)) 6 (⟨53, 2, cU, ch.length, eA (eC ch) (ii.toNat * 2) [.p (cB 2 V.length (b5 V)), .p (cB 1 D.length (cF D))]⟩ : bP) = lu b8 c4 cU hot fnd ch (sw hv fv cv hot fnd ch) := by
   rw [cD]; exact adS
  exact (congrFun eD k).trans af
 ·have q2 : ¬ ii < (ch.length : Int) := by omega
  (repeat first | (with_reducible first | apply bd | apply aX | apply a8 | apply aY | apply dA | apply kX | apply kZ | apply kY) | (with_reducible apply c8); exact rfl; (exact b3 (by omega)) | (with_reducible apply aN); exact rfl; (repeat first | (with_reducible apply aA); exact rfl); (with_reducible apply aB))
  ((refine yT rfl (e0 rfl rfl rfl bf) (bM.refl _) rfl (fun j q h => ?_) ?_))
  ·match j with
   | 0 => cases h
   | 1 => exact ⟨_, rfl⟩
   | 2 => exact ⟨_, rfl⟩
   | 3 => exact ⟨_, rfl⟩
   | j + 4 => cases h
  ·exact ⟨b8, c4, cU, rfl, rfl, rfl⟩
theorem adK {b : Nat} {S : e2} {hv fv cv : Value} {hot fnd : List an} {ch : List (List an × List Int)} : bM (sw hv fv cv hot fnd ch) (dH b S hv fv cv hot fnd ch)
 | 0, _, h => by cases h
 | 1, _, h => h
 | 2, _, h => h
 | 3, _, h => h
 | k + 4, _, h => by cases h
theorem adU {b : Nat} {S : e2} {hv fv cv b8 c4 cU : Value} {hot fnd : List an} {ch : List (List an × List Int)} : b0 (lu b8 c4 cU hot fnd ch (sw hv fv cv hot fnd ch)) (dH b S hv fv cv hot fnd ch) = lu b8 c4 cU hot fnd ch (dH b S hv fv cv hot fnd ch) := by
 funext i
 match i with
 | 0 => rfl
 | 1 => rfl
 | 2 => rfl
 | 3 => rfl
 | 4 => rfl
 | 5 => rfl
 | 6 => rfl
 | i + 7 => rfl
theorem adT {hv fv cv : Value} {hot fnd : List an} {ch : List (List an × List Int)} {R : aJ} : ∀ i r, R i = some r → ∃ a7, lu hv fv cv hot fnd ch R i = some a7 := fun i r h => by
 by_cases rE : i = 6
 ·subst rE; exact ⟨_, cr _ _ _⟩
 ·by_cases k9 : i = 5
  ·subst k9; exact ⟨_, rfl⟩
  ·by_cases eD : i = 4
   ·subst eD; exact ⟨_, rfl⟩
   ·exact ⟨r, by unfold lu; rw [cl _ _ rE, cl _ _ k9, cl _ _ eD]; exact h⟩
section
variable {E : List (Int × b9)} {r rm : Nat}
theorem Zw {s : bA.aW an} (a6 : s.hot.length ≤ 900000) (ar : s.fnd.length ≤ 900000) (ak : j8 s.ch) {cs : List AC} {R : aJ} (br : du E r rm s cs R) :
  c6 ai 28 [qX] (cI 1000 cs) R (nY 1000 fun ca au az => ∃ hv fv cv, ca = .w (.agg (oR r rm s.ph s.I s.J s.T s.dirty hv fv cv)) ∧ au = cs ∧ az = lu hv fv cv s.hot s.fnd s.ch R) := by
 obtain ⟨hv, fv, cv, b, S, lk, hS, cR, fR, rfl, rfl⟩ := id br;have aM := ZC (k := (r : Int)) (rm := (rm : Int)) (ph := (s.ph : Int)) (I := (s.I : Int)) (J := (s.J : Int)) (T := (s.T : Int)) (dirty := s.dirty) (hv := hv) (fv := fv) (cv := cv) a6 ar ak;refine dh (f := 28) Tryz.func28 rfl (de rfl) (by exact ej rfl) ?_;(repeat first | (with_reducible first | apply bd | apply aX | apply a8 | apply aY) | (with_reducible apply aN); exact rfl; (repeat first | (with_reducible apply aA); exact rfl | (with_reducible apply c3); (iterate 3 exact rfl)); (with_reducible apply aB));refine MQ (l := _) (args := [_]) rfl rfl rfl rfl aM adK rfl rfl ?_;rintro _ _ _ ⟨b8, c4, cU, rfl, rfl, rfl⟩;refine ⟨rfl, ?_⟩;rw [adU];(repeat first | (with_reducible first | apply aX | apply aY | apply dA) | (with_reducible apply aN); exact rfl; (repeat first | (with_reducible apply aA); exact rfl); (with_reducible apply aB))
 ((refine eK rfl (e0 rfl rfl rfl bf) rfl (bM.refl _) br.closed rfl adT ?_))
 exact ⟨_, rfl, b8, c4, cU, rfl, rfl, rfl⟩
end
end Go.Proofs.YtpochbhajmbfdaaGreat
