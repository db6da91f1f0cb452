/-
  My own texts, without what this claim does not need. My own text.
-/
import Derived.Test.YtbcecodakfejaaaGreatSNodedK13
set_option maxRecDepth 100000
set_option maxHeartbeats 64000000
set_option linter.unusedVariables false
set_option linter.unusedSimpArgs false
set_option linter.unusedSectionVars false
open Go.Proofs.Tryz renaming prog → ag
namespace Go.Proofs.YtbcecodakfejaaaGreat
open Go.RowKit
open bu
theorem TB {ch : List (List ao × List Int)} (aj : ∀ c ∈ ch, c.1.length = c.2.length + 1 ∧ c.1.length ≤ 1100) (ak : ch.length ≤ 300) : pe ag 156 [re ch] (fun v q => v = aR q.v ∧ q = sg q.v (aW ch)) := by
 refine E2 rfl (fun v q h => by obtain ⟨rfl, _⟩ := h; rfl) ?_;refine dv (f := 156) Tryz.func156 rfl (dq rfl) (by exact nP) ?_;(refine a7 ?_);refine lH 0 155 4 rfl ?_
 skip
 refine jz 28 (SU ch) ch.length (br 0 (sg (.slice none 0 0) [])) _ [] ⟨0, 0, .slice none 0 0, dC _, rfl, rfl, rfl, rfl, rfl⟩ (jx _ _ _) rfl ⟨rfl, rfl, rfl, rfl, trivial⟩ trivial rfl ?_;rintro n R aL bd ⟨i, ii, v, hi, rfl, gv, rfl, rfl, rfl⟩ c0;clear c0
 by_cases al : i < ch.length
 ·have q2 : ii < (ch.length : Int) := by omega
  have bO : 0 ≤ ii := by omega
  obtain ⟨c, g1⟩ : ∃ c, ch[i]? = some c := ⟨_, bN al⟩;obtain ⟨hj, gE⟩ := aj c (c7 g1);have jE := uQ gv g1
  have YJ : (aW (ch.take i)).length ≤ 300 * 1100 := by
   refine ha (xk (m := 1100) fun c oE => (aj c (nB oE)).2) (ju _ ?_);rw [dK]; omega
  have cg : aW (ch.take (i + 1)) = aW (ch.take i) ++ fI c.1 := by
   rw [j3 al, zO, show ch[i] = c from kJ ((bN al).symm.trans g1)];simp [aW]
  have GD : (fI c.1).length = c.2.length := by rw [si]; omega
  obtain ⟨V, D⟩ := c;simp only at hj gE jE cg GD;generalize aW (ch.take i) = pre at *;(refine a7 ?_);refine jz 28 (SS ch V D ii pre) D.length (br 0 (sg v pre)) _ [(5, [.p (cc 2 V.length (bP V)), .p (cc 1 D.length (cA D))])] ⟨0, 0, v, dC _, rfl, rfl, by simp, rfl, rfl⟩ (bB.refl _) rfl ⟨rfl, rfl, rfl, rfl, rfl, rfl, rfl, trivial⟩ ⟨rfl, trivial⟩ rfl ?_;rintro n R aL bd ⟨j, ee, v, ae, rfl, nl, rfl, rfl, rfl⟩ c0;clear c0;have hq : ((fI V).take j).length = j := by rw [dK]; omega
  by_cases hs : j < D.length
  ·have s2 : ee < (D.length : Int) := by omega
   obtain ⟨a, b, g2⟩ : ∃ a b, V[j]? = some (a, b) := ⟨_, _, bN (by omega)⟩;obtain ⟨c, d, g3⟩ : ∃ a b, V[j + 1]? = some (a, b) := ⟨_, _, bN (by omega)⟩;have aT := PY (D := D) g2 g3 (by omega);rw [← nl] at aT
   have dZ : pre ++ (fI V).take (j + 1) = (pre ++ (fI V).take j) ++ [((a, b), (c, d))] := by
    have h1 : j + 1 < V.length := by omega
    have h2 := Od h1;rw [show V[j] = (a, b) from kJ ((bN (by omega)).symm.trans g2), show V[j + 1] = (c, d) from kJ ((bN (by omega)).symm.trans g3)] at h2;obtain ⟨an, aE⟩ := bM.1 h2;rw [j3 an, aE, iu]
   have hlen : (pre ++ (fI V).take j).length ≤ 300 * 1100 + 1100 := by rw [cJ, hq]; omega
   (refine mU ?_);refine nr 0 rfl rfl rfl rfl ?q1 ?q2 rfl rfl (fun v' bR => ?_)
   case q1 => exact iY (by show (pre ++ (fI V).take j).length + 1 ≤ 1000000; omega)
   case q2 => show ((pre ++ (fI V).take j).length + 1) * 32 ≤ 140737488355328; omega
   (refine a7 ?_);exact ⟨D.length - (j + 1), br 0 (sg v' (pre ++ (fI V).take (j + 1))), _, [(5, [.p (cc 2 V.length (bP V)), .p (cc 1 D.length (cA D))])], by omega, ⟨j + 1, ee + 1, v', by omega, rfl, by omega, rfl, rfl, rfl⟩, by rw [dZ, aaH]; exact jx _ _ _, rfl, ⟨rfl, rfl, rfl, rfl, rfl, rfl, rfl, trivial⟩, ⟨rfl, trivial⟩, rfl⟩
  ·have s2 : ¬ ee < (D.length : Int) := by omega
   have kV : (fI V).take j = fI V := gn (by omega);rw [kV, ← cg];(refine a7 ?_);exact ⟨ch.length - (i + 1), br 0 (sg v (aW (ch.take (i + 1)))), _, [], by omega, ⟨i + 1, ii + 1, v, by omega, rfl, by omega, rfl, rfl, rfl⟩, bB.refl _, rfl, ⟨rfl, rfl, rfl, rfl, trivial⟩, trivial, rfl⟩
 ·have q2 : ¬ ii < (ch.length : Int) := by omega
  have cX : ch.take i = ch := gn (by omega);rw [cX];(refine a7 ?_)
  ((refine y1 rfl (bf rfl aN) rfl rfl (jw _) ?_))
  exact ⟨rfl, rfl⟩
theorem aaI (l : List (ao × ao)) : uu (jX l) := .of fun y ai => by
 obtain ⟨x, _, aa⟩ := List.mem_flatMap.1 ai;simp only [oR, fD, sC, or_false] at aa;rcases aa with rfl | rfl | rfl | rfl <;> exact ⟨_, rfl⟩
theorem BF {l : List (List ao × List Int)} {i : Nat} {ii : Int} {V : List ao} {D : List Int} (hi : ii = i) (h : l[i]? = some (V, D)) : (ii.toNat * 2 + 2 ≤ (ev l).length ∧ ((ev l).drop (ii.toNat * 2)).take 2 = [.p (cc 2 V.length (bP V)), .p (cc 1 D.length (cA D))]) ∧ (ev l)[ii.toNat * 2 + 1]? = some (.p (cc 1 D.length (cA D))) := by
 have h2 := uQ hi h
 have h1 : ii.toNat * 2 + 2 ≤ (ev l).length := by
  have := B0 (f := ox) (z := 2) (fun _ => rfl) l;unfold ev;rw [this];have := (bM.1 h).1;omega
 refine ⟨⟨h1, h2⟩, ?_⟩;have an : (((ev l).drop (ii.toNat * 2)).take 2)[1]? = some (.p (cc 1 D.length (cA D))) := by rw [h2]; rfl
 rw [fE (by decide), fV] at an;exact an
theorem Zr {l : List ao} {i : Nat} {ii x y : Int} (hi : ii = i) (h : l[i]? = some (x, y)) : ii.toNat * 2 + 2 ≤ (bP l).length ∧ ((bP l).drop (ii.toNat * 2)).take 2 = [.c (.int .i64 x), .c (.int .i64 y)] := by
 have := (bM.1 h).1;refine ⟨by rw [n4]; omega, pR hi h⟩
section
variable {E : List (Int × bS)} {r rm : Nat}
def jD (ch : List (List ao × List Int)) : Prop := ch.length ≤ 300 ∧ ∀ c ∈ ch, c.1.length = c.2.length + 1 ∧ c.1.length ≤ 1100
theorem NZ {s : bu.aV ao} (hd : s.dirty = false) (ar : s.fnd = []) : gg E r rm 104 [] s lJ (fo s 4 0 0) := by
 obtain ⟨ph, I, J, T, dirty, hot, fnd, ch⟩ := s;obtain rfl : dirty = false := hd;obtain rfl : fnd = [] := ar;rintro cs R ⟨hv, fv, cv, b, S, lk, hS, c6, ga, rfl, rfl⟩;have dF : (eC E r rm ph I J T false hv fv cv b lk).all AC.aZ = true := by simp only [ku, mR, c6]; rfl
 have bH := Hn (E := E) (k := r) (rm := rm) (ph := ph) (I := I) (J := J) (T := T) (dirty := false) (hv := hv) (fv := fv) (cv := cv) (b := b) c6 4;refine dv (f := 104) Tryz.func104 rfl (dq rfl) (by exact eu rfl) ?_;(refine a7 ?_);refine kl 1000 rfl rfl rfl rfl bH rfl rfl dF rfl rfl ?_;(refine a7 ?_)
 ((refine eP rfl aN rfl (bB.refl _) rfl rfl fc ?_))
 exact ⟨_, rfl, rfl, hv, fv, cv, b, S, .c (.slice none 0 0), hS, rfl, fun h => (by cases h), rfl, rfl⟩
theorem aad {s : bu.aV ao} (hd : s.dirty = false) (ar : s.fnd = []) (aj : jD s.ch) : gg E r rm 132 [] s lJ (if (aW s.ch).length < 2 then fo s 4 0 0 else fo s 3 0 1) := by
 obtain ⟨ph, I, J, T, dirty, hot, fnd, ch⟩ := s;obtain rfl : dirty = false := hd;obtain rfl : fnd = [] := ar;have aj : jD ch := aj;rintro cs R ⟨hv, fv, cv, b, S, lk, hS, c6, ga, rfl, rfl⟩;have dF : (eC E r rm ph I J T false hv fv cv b lk).all AC.aZ = true := by simp only [ku, mR, c6]; rfl
 have aT := CT (E := E) (k := r) (rm := rm) (ph := ph) (I := I) (J := J) (T := T) (dirty := false) (hv := hv) (fv := fv) (cv := cv) (b := b) c6 3 1;have bH := TB (ch := ch) aj.2 aj.1;have et := NZ (E := E) (r := r) (rm := rm) (s := ⟨3, 0, 1, 0, false, hot, [], ch⟩) rfl rfl;simp only;have MR := aaI (aW ch);have cZ := Vo ch;have hS : sZ rm hot (ea b) S := hS;generalize hV : aW ch = L at *
 by_cases h2 : L.length < 2
 ·rw [if_pos h2];have wR : (1 : Int) ≥ (L.length : Int) := by omega
  refine dv (f := 132) Tryz.func132 rfl (dq rfl) (by exact eu rfl) ?_;(refine a7 ?_);refine kl 1000 rfl rfl rfl rfl aT rfl rfl dF rfl rfl ?_;(refine a7 ?_);refine Nj 3 9 (by decide) rfl rfl rfl rfl bH rfl (jw _) (fun y ai => cB.1 cZ y ai) rfl rfl (fun v q h => ?_) (fun q h => ?_)
  ·obtain ⟨rfl, h⟩ := h;rw [h]; exact ⟨rfl, MR⟩
  obtain ⟨_, h⟩ := h;rw [h];(repeat first | (with_reducible apply dQ (id := 2) [0,1,2,3,4,5,6,7,8,9,10]); kernel_rfl; kernel_rfl; rfl | refine c5 ?_);refine il rfl rfl rfl rfl rfl rfl rfl rfl et ⟨hv, fv, cv, b, S, .p (cc 4 L.length (jX L)), hS, rfl, fun _ => by rw [hV], rfl, rfl⟩ (fun au ay ck => ?_);(refine a7 ?_);obtain ⟨bR, dh, db, bT, dm, gY, fQ, hk, iD, rfl, rfl⟩ := id ck
  ((refine eP rfl aN rfl (bB.refl _) ck.closed rfl fc ?_))
  exact ⟨_, rfl, rfl, ck⟩
 ·rw [if_neg h2];have wR : ¬ (1 : Int) ≥ (L.length : Int) := by omega
  refine dv (f := 132) Tryz.func132 rfl (dq rfl) (by exact eu rfl) ?_;(refine a7 ?_);refine kl 1000 rfl rfl rfl rfl aT rfl rfl dF rfl rfl ?_;(refine a7 ?_);refine Nj 3 9 (by decide) rfl rfl rfl rfl bH rfl (jw _) (fun y ai => cB.1 cZ y ai) rfl rfl (fun v q h => ?_) (fun q h => ?_)
  ·obtain ⟨rfl, h⟩ := h;rw [h]; exact ⟨rfl, MR⟩
  obtain ⟨_, h⟩ := h;rw [h];(repeat first | (with_reducible apply dQ (id := 2) [0,1,2,3,4,5,6,7,8,9,10]); kernel_rfl; kernel_rfl; rfl | refine c5 ?_)
  ((refine eP rfl aN rfl (bB.refl _) rfl rfl fc ?_))
  exact ⟨_, rfl, rfl, hv, fv, cv, b, S, .p (cc 4 L.length (jX L)), hS, rfl, fun _ => by show _ = AC.p (cc 4 (aW ch).length (jX (aW ch))); rw [hV], rfl, rfl⟩
def Tq (E : List (Int × bS)) (r rm : Nat) (s : bu.aV ao) (hv fv cv : Value) (b : Nat) (S : e0) (lk : AC) (n : Nat) (R : aI) (aL : List (Nat × ah)) (bd : List (Nat × List AC)) : Prop :=
 ∃ (I J : Nat), I < s.ch.length ∧ n = s.ch.length - I ∧ mh s = mh { s with I := I, J := J } ∧ J ≤ 1100 ∧ R = dP b S hv fv cv s.hot [] s.ch ∧ aL = [(0, rh), (2, .w (.one (.own 1000 1)))] ∧ bd = [(1000, eC E r rm s.ph I J s.T false hv fv cv b lk)]
theorem afL {s : bu.aV ao} {I J : Nat} {V : List ao} {D : List Int} (h : s.ch[I]? = some (V, D)) : mh ({ s with I := I, J := J } : bu.aV ao) = if J + 1 < V.length then ({ s with I := I, J := J } : bu.aV ao) else mh ({ s with I := I + 1, J := 0 } : bu.aV ao) := by
 have ak := (bM.1 h).1;unfold mh;have e : s.ch.drop I = (V, D) :: s.ch.drop (I + 1) := by rw [mN ak, (bM.1 h).2]
 simp only [e, uj]
 by_cases ae : J + 1 < V.length
 ·rw [if_pos ae, if_pos ae]
 ·rw [if_neg ae, if_neg ae]; rfl
theorem afM {s : bu.aV ao} (h : s.ch.length ≤ s.I) : mh s = if (aW s.ch).length < 2 then fo s 4 0 0 else fo s 3 0 1 := by
 unfold mh;rw [List.drop_eq_nil_of_le h];rfl
theorem N0 {s : bu.aV ao} (hd : s.dirty = false) (ar : s.fnd = []) (aj : jD s.ch) (bj : s.I < s.ch.length) (kB : s.J ≤ 1100) (ho : s.ph = 2) : gg E r rm 98 [] s lJ (mh s) := by
 rintro cs R ⟨hv, fv, cv, b, S, lk, hS, c6, ga, rfl, rfl⟩;rw [hd, ar];have dF : ∀ I J : Int, (eC E r rm s.ph I J s.T false hv fv cv b lk).all AC.aZ = true := fun I J => by simp only [ku, mR, c6]; rfl
 refine dv (f := 98) Tryz.func98 rfl (dq rfl) (by exact eu rfl) ?_;(refine a7 ?_);refine jz 46 (Tq E r rm s hv fv cv b S lk) (s.ch.length - s.I) (dP b S hv fv cv s.hot [] s.ch) _ [(1000, eC E r rm s.ph s.I s.J s.T false hv fv cv b lk)] ⟨s.I, s.J, bj, rfl, rfl, kB, rfl, rfl, rfl⟩ (bB.refl _) rfl ⟨rfl, rfl, trivial⟩ ⟨rfl, trivial⟩ ?_ ?_
 ·cases lk <;> first | rfl | cases c6
 rintro n R aL bd ⟨I, J, Xe, rfl, G0, Xg, rfl, rfl, rfl⟩ c0;clear c0;obtain ⟨V, D, g1⟩ : ∃ V D, s.ch[I]? = some (V, D) := ⟨_, _, bN Xe⟩;obtain ⟨hj, gE⟩ := aj.2 _ (c7 g1);have hlen := aj.1;simp only at hj gE;obtain ⟨lN, rq⟩ := BF (ii := (I : Int)) rfl g1;have zo := afL (s := s) (J := J) g1;have di : (0 : Int) ≤ (I : Int) := by omega
 have q1 : (I : Int) < (s.ch.length : Int) := by omega
 have q2 : 0 < s.ch.length := by omega
 by_cases ae : J + 1 < V.length
 ·have jQ : ¬ (J : Int) ≥ (D.length : Int) := by omega
  rw [if_pos ae] at zo;(repeat first | (with_reducible apply dQ (id := 1) [0,1,2,3,4,5,6,7,8,9,10,11,12,13,14,15,16]); kernel_rfl; kernel_rfl; rfl | refine c5 ?_ | (with_reducible apply jW 3); (iterate 4 rfl); (omega); (assumption); rfl; kernel_rfl; rfl | (with_reducible apply zg 3); (iterate 3 rfl); (assumption); kernel_rfl; rfl | (with_reducible apply zh 3); (iterate 3 rfl); (assumption); assumption; rfl; kernel_rfl; rfl)
  ((refine eP rfl aN rfl (bB.refl _) (dF _ _) rfl fc ?_))
  refine ⟨_, rfl, rfl, hv, fv, cv, b, S, lk, ?_⟩;rw [G0, zo];exact ⟨hS, c6, ga, by rw [hd], by rw [ar]⟩
 ·have jQ : (J : Int) ≥ (D.length : Int) := by omega
  rw [if_neg ae] at zo
  by_cases ak : I + 1 = s.ch.length
  ·have e1 : (I : Int) + 1 = (s.ch.length : Int) := by omega
   have et := aad (E := E) (r := r) (rm := rm) (s := { s with I := I + 1, J := 0 }) hd ar aj;have YX := afM (s := { s with I := I + 1, J := 0 }) (by show s.ch.length ≤ I + 1; omega);rw [← YX] at et;(repeat first | (with_reducible apply dQ (id := 1) [0,1,2,3,4,5,6,7,8,9,10,11,12,13,14,15,16]); kernel_rfl; kernel_rfl; rfl | (with_reducible apply dQ (id := 3) [0,1,2,3,4,5,6,7,8,9]); kernel_rfl; kernel_rfl; rfl | refine c5 ?_ | (with_reducible apply nZ 3); (iterate 4 rfl); kernel_rfl; rfl | (with_reducible apply jW 3); (iterate 4 rfl); (omega); (assumption); rfl; kernel_rfl; rfl | (with_reducible apply zg 3); (iterate 3 rfl); (assumption); kernel_rfl; rfl | (with_reducible apply zh 3); (iterate 3 rfl); (assumption); assumption; rfl; kernel_rfl; rfl);refine il rfl rfl rfl rfl rfl rfl rfl rfl et ⟨hv, fv, cv, b, S, lk, hS, c6, ga, by rw [hd]; rfl, by rw [ar]⟩ (fun au ay ck => ?_);(refine a7 ?_);obtain ⟨bR, dh, db, bT, dm, gY, fQ, hk, iD, rfl, rfl⟩ := id ck
   ((refine eP rfl aN rfl (bB.refl _) ck.closed rfl fc ?_))
   refine ⟨_, rfl, rfl, ?_⟩;rw [G0, zo];exact ck
  ·have e1 : ¬ (I : Int) + 1 = (s.ch.length : Int) := by omega
   (repeat first | (with_reducible apply dQ (id := 1) [0,1,2,3,4,5,6,7,8,9,10,11,12,13,14,15,16]); kernel_rfl; kernel_rfl; rfl | (with_reducible apply dQ (id := 3) [0,1,2,3,4,5,6,7,8,9]); kernel_rfl; kernel_rfl; rfl | refine c5 ?_ | (with_reducible apply nZ 3); (iterate 4 rfl); kernel_rfl; rfl | (with_reducible apply jW 3); (iterate 4 rfl); (omega); (assumption); rfl; kernel_rfl; rfl | (with_reducible apply zg 3); (iterate 3 rfl); (assumption); kernel_rfl; rfl | (with_reducible apply zh 3); (iterate 3 rfl); (assumption); assumption; rfl; kernel_rfl; rfl);refine ⟨s.ch.length - (I + 1), dP b S hv fv cv s.hot [] s.ch, _, [(1000, eC E r rm s.ph (I + 1 : Nat) (0 : Nat) s.T false hv fv cv b lk)], by omega, ⟨I + 1, 0, by omega, rfl, by rw [G0, zo], by omega, rfl, rfl, rfl⟩, bB.refl _, rfl, ⟨rfl, rfl, trivial⟩, ⟨rfl, trivial⟩, ?_⟩;cases lk <;> first | rfl | cases c6
end
section
variable {P : Program} {a8 : eH} {bp A : Nat → Prop} {R : aI} {s : aA} {a : Act} {w : World} {ad : Nat → Nat} {c : Code} {Q : Exit → aI → aA → Prop}
theorem eA.aeQ {b4 : Nat → Nat} (fH : ∀ i j, b4 i = b4 j → i = j) (h : eA a8 bp R s a w A ad) : eA a8 bp (fun i => R (b4 i)) s a w A ad :=
 ⟨h.up, h.sub, h.rel, h.oS, h.below, fun i r hi => h.rows (b4 i) r hi, fun i j r q hi ae gG g aq => h.apart (b4 i) (b4 j) r q hi ae (fun e => gG (fH i j e)) g aq, fun i r g hi aq => h.hot (b4 i) r g hi aq, h.jH⟩
theorem afH (i j : Nat) (h : fs P c Q (fun x => R (swp i j x)) s) : fs P c Q R s := fun ok a8 bp a w ⟨A, ad, aw⟩ => h ok a8 bp a w ⟨A, ad, aw.aeQ fun x y e => by rw [← mS i j x, e, mS]⟩
end
theorem IR {A B ds : List AC} {off : Nat} (h : A.length = off) : eD (A ++ B) off ds = A ++ ds ++ B.drop ds.length := by
 unfold eD;rw [← h, List.take_left, List.drop_append, uf (by omega), Nat.add_sub_cancel_left]; simp
def JK (E : List (Int × bS)) (r rm : Nat) (s : bu.aV ao) (cs : List AC) (R : aI) : Prop := ∃ (hv fv cv : Value) (b : Nat) (S : e0) (lk : AC), sZ rm s.hot (ea b) S ∧ lk.aZ = true ∧ cs = eC E r rm s.ph s.I s.J s.T s.dirty hv fv cv b lk ∧ R = dP b S hv fv cv s.hot s.fnd s.ch
def JI (E : List (Int × bS)) (r rm : Nat) (f : FuncId) (args : List ah) (s : bu.aV ao) (v : ah) (s' : bu.aV ao) : Prop :=
 ∀ cs R, JK E r rm s cs R → dk ag f (rh :: args) (cN 1000 cs) R (ol 1000 fun b0 au ay => b0 = v ∧ dE E r rm s' au ay)
section
variable {P : Program} {R : aI} {s : aA} {ops : Array Oper} {dr : Option (List Nat)} {ty : Nat} {pos : String} {after : Array Edge} {guard : Option (Nat × Bool)} {K : aI → aA → Prop} {rest : List Oper}
theorem Nh {E : List (Int × bS)} {r rm : Nat} {er s1 : bu.aV ao} {v : ah} {dst : Option Nat} {f : FuncId} {g : Operand} {aL : Array TypeId} {l : List Operand} {args : List ah} {cs : List AC} [x2 : Enters ag f] (hw : want ops ⟨dst, .call ⟨.value g, l.toArray, aL⟩, ty, pos, after, guard⟩ s = some true) (hm : dW dr ⟨dst, .call ⟨.value g, l.toArray, aL⟩, ty, pos, after, guard⟩ = true)
  (aq : s.look g = some (aR (.func (.func f) #[] #[]))) (aJ : l.map s.look = (rh :: args).map some) (af : s.mem 1000 = some cs) (hq : pc dr 1000 = true) (ek : args.all ah.aZ = true) (hd : kT dst s.n = true) (hp : JI E r rm f args er v s1) (bj : JK E r rm er cs R)
  (h : ∀ au ay, dE E r rm s1 au ay → cQ ag ops dr K rest ay ((s.eh 1000 au).put dst v)) : cQ ag ops dr K (⟨dst, .call ⟨.value g, l.toArray, aL⟩, ty, pos, after, guard⟩ :: rest) R s := by
 have aj : cs.all AC.aZ = true := by
  obtain ⟨hv, fv, cv, b, S, lk, _, c6, rfl, _⟩ := bj;simp only [ku, mR, c6]; rfl
 refine CA 1000 hw hm aq aJ (hp cs R bj) af hq (bB.refl _) aj ek hd ?_;rintro _ au ay ⟨rfl, aO⟩
 have : bV ay R = ay := by
  obtain ⟨_, _, _, _, _, _, _, _, _, rfl⟩ := bj;obtain ⟨_, _, _, _, _, _, _, _, _, _, rfl⟩ := aO;exact Q0
 rw [this];exact h au ay aO
end
section
variable {E : List (Int × bS)} {r rm : Nat}
theorem N1 {s : bu.aV ao} (hd : s.dirty = false) (ar : s.fnd = []) (aj : jD s.ch) (aD : 0 < s.ch.length) : JI E r rm 130 [] s lJ (mh (fo s 2 0 0)) := by
 have et := N0 (E := E) (r := r) (rm := rm) (s := fo s 2 0 0) hd rfl aj aD (dC _) rfl;obtain ⟨ph, I, J, T, dirty, hot, fnd, ch⟩ := s;obtain rfl : dirty = false := hd;obtain rfl : fnd = [] := ar;rintro cs R ⟨hv, fv, cv, b, S, lk, hS, c6, rfl, rfl⟩;have dF : (eC E r rm ph I J T false hv fv cv b lk).all AC.aZ = true := by simp only [ku, mR, c6]; rfl
 have aT := CT (E := E) (k := r) (rm := rm) (ph := ph) (I := I) (J := J) (T := T) (dirty := false) (hv := hv) (fv := fv) (cv := cv) (b := b) c6 2 0;refine dv (f := 130) Tryz.func130 rfl (dq rfl) (by exact eu rfl) ?_;(refine a7 ?_);refine kl 1000 rfl rfl rfl rfl aT rfl rfl dF rfl rfl ?_;(refine a7 ?_);refine il rfl rfl rfl rfl rfl rfl rfl rfl et ⟨hv, fv, cv, b, S, lk, hS, c6, fun h => (by cases h), rfl, rfl⟩ (fun au ay ck => ?_);(refine a7 ?_);obtain ⟨bR, dh, db, bT, dm, gY, fQ, hk, iD, rfl, rfl⟩ := id ck
 ((refine eP rfl aN rfl (bB.refl _) ck.closed rfl fc ?_))
 exact ⟨_, rfl, rfl, ck⟩
theorem NY {s : bu.aV ao} (ar : s.fnd = []) (aj : jD s.ch) (aD : 0 < s.ch.length) : gg E r rm 104 [] s lJ (nH s) := by
 unfold nH
 by_cases hd : s.dirty = true
 ·rw [if_pos hd];have et := N1 (E := E) (r := r) (rm := rm) (s := { s with dirty := false }) rfl ar aj aD;obtain ⟨ph, I, J, T, dirty, hot, fnd, ch⟩ := s;obtain rfl : dirty = true := hd;obtain rfl : fnd = [] := ar;rintro cs R ⟨hv, fv, cv, b, S, lk, hS, c6, ga, rfl, rfl⟩;simp only at et ⊢;refine dv (f := 104) Tryz.func104 rfl (dq rfl) (by exact eu rfl) ?_;(refine a7 ?_);refine Nh rfl rfl rfl rfl rfl rfl rfl rfl et ⟨hv, fv, cv, b, S, .c (.slice none 0 0), hS, rfl, rfl, rfl⟩ (fun au ay ck => ?_);(refine a7 ?_);obtain ⟨bR, dh, db, bT, dm, gY, fQ, hk, iD, rfl, rfl⟩ := id ck
  ((refine eP rfl aN rfl (bB.refl _) ck.closed rfl fc ?_))
  exact ⟨_, rfl, rfl, ck⟩
 ·have hd : s.dirty = false := by cases h : s.dirty <;> simp_all
  rw [if_neg (by rw [hd]; decide)];exact NZ hd ar
theorem abG (p q : ao) : hx p q = (vA p q, vz p q) := by
 unfold hx vA vz; split <;> rfl
def SX (E : List (Int × bS)) (r rm : Nat) (s : bu.aV ao) (hv fv cv v : Value) (b : Nat) (S : e0) (lk : AC) (fC : List (List ao × List Int)) (Z : List AC) (n : Nat) (R : aI) (aL : List (Nat × ah)) (bd : List (Nat × List AC)) : Prop :=
 ∃ (i : Nat) (ii : Int), i ≤ E.length ∧ n = E.length - i ∧ ii = i ∧ R = bK (dP b S hv fv cv s.hot [] s.ch) 4 ⟨34, 2, v, E.length, ev (fC.take i) ++ Z.drop (2 * i)⟩ ∧ aL = [(0, rh), (2, aR v), (11, aH E.length), (12, aH ii)] ∧ bd = [(1000, eC E r rm s.ph s.I s.J s.T false hv fv cv b lk)]
theorem NX {s : bu.aV ao} (ap : r ≤ 28) (fF : gI (E.map Prod.snd) = true) (ak : E.length ≤ 300) (aD : 0 < E.length) (hd : s.dirty = false) (ar : s.fnd = []) : gg E r rm 95 [] s lJ (lB (bx E r rm) s) := by
 rintro cs R ⟨hv, fv, cv, b, S, lk, hS, c6, ga, rfl, rfl⟩;rw [hd, ar];have dF : (eC E r rm s.ph s.I s.J s.T false hv fv cv b lk).all AC.aZ = true := by simp only [ku, mR, c6]; rfl
 obtain ⟨fC, qI⟩ : ∃ fC, fC = (List.range (bx E r rm).n).map fun k => hx ((bx E r rm).P k) ((bx E r rm).Q k) := ⟨_, rfl⟩;have ax : fC.length = E.length := by rw [qI]; simp [qZ]
 have XF : jD fC := by
  refine ⟨by omega, fun c aj => ?_⟩;rw [qI] at aj;obtain ⟨k, _, rfl⟩ := iv.1 aj;unfold hx; split
  ·exact ⟨rfl, Nat.le_add_left 1 1099⟩
  ·exact ⟨rfl, Nat.le_add_left 2 1098⟩
 have et := N1 (E := E) (r := r) (rm := rm) (s := { s with ch := fC }) hd ar XF (by show 0 < fC.length; omega);rw [show mh (fo ({ s with ch := fC } : bu.aV ao) 2 0 0) = lB (bx E r rm) s by rw [qI]; rfl] at et
 have gD : ∀ i o (a : bS), E[i]? = some (o, a) → fC[i]? = some (hx (lC r a.1) (lC r a.2)) := fun i o a h => by
  have hi := (bM.1 h).1;have e : (E.map Prod.snd).getD i mx = a := by rw [gy, eg, h]; rfl
  rw [qI, eg, List.getElem?_range (by simpa [qZ] using hi)];show some (hx (lC r ((E.map Prod.snd).getD i mx).1) (lC r ((E.map Prod.snd).getD i mx).2)) = _;rw [e]
 have bU : ∀ i o (a : bS), E[i]? = some (o, a) → gJ a.1 = true ∧ gJ a.2 = true := fun i o a h => by
  have := qV fF i;rw [gy, eg, h] at this;exact this
 have Cc : (h5 E.length 2 [.slice none 0 0, .slice none 0 0]).length = 2 * E.length := by unfold h5; simp; omega
 clear qI;refine dv (f := 95) Tryz.func95 rfl (dq rfl) (by exact eu rfl) ?_;(refine a7 ?_);refine zi (l := E.length) (c' := E.length) 4 rfl rfl rfl rfl (dJ _) rfl rfl ?h2 (iY (by omega)) rfl (fun v hI => ?_)
 case h2 => omega
 (refine a7 ?_);generalize h5 E.length 2 [.slice none 0 0, .slice none 0 0] = Z at *;(repeat first | refine c5 ?_ | (with_reducible apply nZ 4); (iterate 4 rfl); kernel_rfl; rfl);refine jz 32 (SX E r rm s hv fv cv v b S lk fC Z) E.length (bK (dP b S hv fv cv s.hot [] s.ch) 4 ⟨34, 2, v, E.length, Z⟩) _ [(1000, eC E r rm s.ph s.I s.J s.T false hv fv cv b lk)] ⟨0, 0, dC _, rfl, rfl, rfl, rfl, rfl⟩ (bB.refl _) rfl ⟨rfl, rfl, rfl, rfl, trivial⟩ ⟨rfl, trivial⟩ ?_ ?_
 ·cases lk <;> first | rfl | cases c6
 rintro n R aL bd ⟨i, ii, hi, rfl, gv, rfl, rfl, rfl⟩ c0;clear c0
 have aB : (ev (fC.take i)).length = 2 * i := by
  have := B0 (f := ox) (z := 2) (fun _ => rfl) (fC.take i);rw [dK] at this;unfold ev; rw [this]; omega
 by_cases al : i < E.length
 ·have q2 : ii < (E.length : Int) := by omega
  have bO : 0 ≤ ii := by omega
  have dj : 0 < E.length := by omega
  obtain ⟨o, ⟨p1, p2⟩, ⟨b3, b7⟩, g1⟩ : ∃ o p q, E[i]? = some (o, p, q) := ⟨_, _, _, bN al⟩;obtain ⟨dp, dX⟩ := bU _ _ _ g1;have g2 := gD _ _ _ g1;have aT := Ho (E := E) (k := r) (rm := rm) (ph := s.ph) (I := s.I) (J := s.J) (T := s.T) (dirty := false) (hv := hv) (fv := fv) (cv := cv) (b := b) ap rfl c6 (by omega) g1 dp dX;rw [← gv] at aT;have bH := ZW (cC p1 r) (cC p2 r) (cC b3 r) (cC b7 r);have aM : hx (lC r (p1, p2)) (lC r (b3, b7)) = (vA (cC p1 r, cC p2 r) (cC b3 r, cC b7 r), vz (cC p1 r, cC p2 r) (cC b3 r, cC b7 r)) := abG _ _;rw [aM] at g2;clear aM dp dX g1;generalize cC p1 r = a1 at *;generalize cC p2 r = a2 at *;generalize cC b3 r = a3 at *;generalize cC b7 r = a4 at *;generalize vA (a1, a2) (a3, a4) = V at *;generalize vz (a1, a2) (a3, a4) = D at *;have aF : ii.toNat * 2 = 2 * i := by omega
  have GO : ii.toNat * 2 + 2 ≤ (ev (fC.take i) ++ Z.drop (2 * i)).length := by rw [cJ, aB, h3, Cc]; omega
  have cg : eD (ev (fC.take i) ++ Z.drop (2 * i)) (ii.toNat * 2) [.p (cc 2 V.length (bP V)), .p (cc 1 D.length (cA D))] = ev (fC.take (i + 1)) ++ Z.drop (2 * (i + 1)) := by
   rw [IR (by rw [aB, aF]), List.drop_drop];congr 1;have bg : i < fC.length := by omega
   rw [j3 bg, show fC[i] = (V, D) from kJ ((bN bg).symm.trans g2)];simp [ev, ox]
  (refine a7 ?_);refine kl 1000 rfl rfl rfl rfl aT rfl rfl dF rfl rfl ?_;(repeat first | refine c5 ?_ | refine iw ?_ | (with_reducible apply jW 4); (iterate 4 rfl); (omega); (assumption); rfl; kernel_rfl; rfl);refine zl 4 rfl rfl rfl rfl dj rfl rfl GO rfl ?_;(refine a7 ?_);refine ⟨E.length - (i + 1), bK (dP b S hv fv cv s.hot [] s.ch) 4 ⟨34, 2, v, E.length, ev (fC.take (i + 1)) ++ Z.drop (2 * (i + 1))⟩, _, [(1000, eC E r rm s.ph s.I s.J s.T false hv fv cv b lk)], by omega, ⟨i + 1, ii + 1, by omega, rfl, by omega, rfl, rfl, rfl⟩, fun k q af => ?_, rfl, ⟨rfl, rfl, rfl, rfl, trivial⟩, ⟨rfl, trivial⟩, ?_⟩
  ·rw [← cg] at af
   by_cases ie : k = 4
   ·subst ie; exact af
   ·rw [cl _ _ ie] at af ⊢;rw [cl _ _ ie]; exact af
  ·cases lk <;> first | rfl | cases c6
 ·have q2 : ¬ ii < (E.length : Int) := by omega
  have cX : fC.take i = fC := gn (by omega);have aF : Z.drop (2 * i) = [] := List.drop_eq_nil_of_le (by omega);rw [cX, aF, nC];refine afH 3 4 ?_;refine D7 (dP b S hv fv v s.hot [] fC) (fun k q af => ?_) ?_
  ·match k with
   | 0 => exact af
   | 1 => exact af
   | 2 => exact af
   | 3 => rw [← ax]; exact af
   | k + 4 => cases af
  (refine a7 ?_);refine Nh rfl rfl rfl rfl rfl rfl rfl rfl et ⟨hv, fv, v, b, S, lk, hS, c6, by rw [hd], by rw [ar]⟩ (fun au ay ck => ?_);(refine a7 ?_);obtain ⟨bR, dh, db, bT, dm, gY, fQ, hk, iD, rfl, rfl⟩ := id ck
  ((refine eP rfl aN rfl (bB.refl _) ck.closed rfl fc ?_))
  exact ⟨_, rfl, rfl, ck⟩
end
section
variable {E : List (Int × bS)} {r rm : Nat}
theorem Bx {n : Nat} (h : n ≠ 5) : Nat.beq n 5 = false := by
 cases aO : Nat.beq n 5 with
 | false => rfl
 | true => exact absurd (hb aO) h
theorem Cj {o : cU ao} {s : bu.aV ao} {q : ao} (h : s.fnd = []) : (dO o s q).fnd = [] := by
 unfold dO; split
 ·exact h
 ·split
  ·exact h
  ·rfl
theorem Ci {o : cU ao} {s : bu.aV ao} {q : ao} : (dO o s q).dirty = s.dirty ∧ (dO o s q).ch = s.ch ∧ (dO o s q).hot.length ≤ s.hot.length + 1 := by
 unfold dO; split
 ·exact ⟨rfl, rfl, Nat.le_succ _⟩
 ·split
  ·exact ⟨rfl, rfl, by simp⟩
  ·exact ⟨rfl, rfl, Nat.le_succ _⟩
theorem Ck {o : cU ao} {s : bu.aV ao} {q : ao} (h : (dO o s q).ph ≠ 5) : (dO o s q).ph = s.ph ∧ (dO o s q).I = s.I ∧ (dO o s q).J = s.J ∧ (dO o s q).T = s.T := by
 revert h
 unfold dO; split
 ·exact fun _ => ⟨rfl, rfl, rfl, rfl⟩
 ·split
  ·exact fun _ => ⟨rfl, rfl, rfl, rfl⟩
  ·exact fun h => absurd rfl h
theorem aae {s : bu.aV ao} (ap : r ≤ 28) (fF : gI (E.map Prod.snd) = true) (ak : E.length ≤ 300) (aD : 0 < E.length) (hd : s.dirty = false) (ar : s.fnd = []) : gg E r rm 91 [] s lJ (if E.length < 2 then lB (bx E r rm) s else fo s 1 0 1) := by
 have et := NX (E := E) (r := r) (rm := rm) (s := fo s 1 0 1) ap fF ak aD hd rfl;rw [show lB (bx E r rm) (fo s 1 0 1) = lB (bx E r rm) s from rfl] at et;obtain ⟨ph, I, J, T, dirty, hot, fnd, ch⟩ := s;obtain rfl : dirty = false := hd;obtain rfl : fnd = [] := ar;rintro cs R ⟨hv, fv, cv, b, S, lk, hS, c6, ga, rfl, rfl⟩;have dF : (eC E r rm ph I J T false hv fv cv b lk).all AC.aZ = true := by simp only [ku, mR, c6]; rfl
 have Xr : (eC E r rm 1 0 1 0 false hv fv cv b lk).all AC.aZ = true := by simp only [ku, mR, c6]; rfl
 have aT := CT (E := E) (k := r) (rm := rm) (ph := ph) (I := I) (J := J) (T := T) (dirty := false) (hv := hv) (fv := fv) (cv := cv) (b := b) c6 1 1
 by_cases h2 : E.length < 2
 ·rw [if_pos h2];have wR : (1 : Int) ≥ (E.length : Int) := by omega
  refine dv (f := 91) Tryz.func91 rfl (dq rfl) (by exact eu rfl) ?_;(refine a7 ?_);refine kl 1000 rfl rfl rfl rfl aT rfl rfl dF rfl rfl ?_;(repeat first | (with_reducible apply dQ (id := 1) [0,1,2,3,4,5,6,7,8,9,10]); kernel_rfl; kernel_rfl; rfl | refine c5 ?_);refine il rfl rfl rfl rfl rfl rfl rfl rfl et ⟨hv, fv, cv, b, S, lk, hS, c6, fun h => (by cases h), rfl, rfl⟩ (fun au ay ck => ?_);(refine a7 ?_);obtain ⟨bR, dh, db, bT, dm, gY, fQ, hk, iD, rfl, rfl⟩ := id ck
  ((refine eP rfl aN rfl (bB.refl _) ck.closed rfl fc ?_))
  exact ⟨_, rfl, rfl, ck⟩
 ·rw [if_neg h2];have wR : ¬ (1 : Int) ≥ (E.length : Int) := by omega
  refine dv (f := 91) Tryz.func91 rfl (dq rfl) (by exact eu rfl) ?_;(refine a7 ?_);refine kl 1000 rfl rfl rfl rfl aT rfl rfl dF rfl rfl ?_;(repeat first | (with_reducible apply dQ (id := 1) [0,1,2,3,4,5,6,7,8,9,10]); kernel_rfl; kernel_rfl; rfl | refine c5 ?_)
  ((refine eP rfl aN rfl (bB.refl _) Xr rfl fc ?_))
  exact ⟨_, rfl, rfl, hv, fv, cv, b, S, lk, hS, c6, fun h => (by cases h), rfl, rfl⟩
theorem FC {i : Nat} {o : Int} {a : bS} (h : E[i]? = some (o, a)) : (E.map Prod.snd).getD i mx = a := by rw [gy, eg, h]; rfl
theorem Z9 {s : bu.aV ao} (ap : r ≤ 28) (fF : gI (E.map Prod.snd) = true) (ak : E.length ≤ 300) (bj : s.I < E.length) (hd : s.dirty = false) (ar : s.fnd = []) (aU : s.hot.length ≤ 1024) (ho : s.ph = 0) : gg E r rm 54 [] s lJ (th (bx E r rm) s) := by
 obtain ⟨o, ⟨p1, p2⟩, ⟨b3, b7⟩, g1⟩ : ∃ o p q, E[s.I]? = some (o, p, q) := ⟨_, _, _, bN bj⟩;have iz := FC g1;have ax := qV fF s.I;rw [iz] at ax;have V7 : (bx E r rm).P s.I = (cC p1 r, cC p2 r) := by show lC r ((E.map Prod.snd).getD s.I mx).1 = _; rw [iz]; rfl
 have V8 : (bx E r rm).Q s.I = (cC b3 r, cC b7 r) := by show lC r ((E.map Prod.snd).getD s.I mx).2 = _; rw [iz]; rfl
 have BR : (bx E r rm).n = E.length := mP ..;have H1 := Hp (E := E) (r := r) (rm := rm) (s := s) (x := cC p1 r) (y := cC p2 r) (by omega) ar (by omega);unfold th;rw [V7, V8, BR];have rW := Ci (o := bx E r rm) (s := s) (q := (cC p1 r, cC p2 r));have wZ := Cj (o := bx E r rm) (q := (cC p1 r, cC p2 r)) ar;have oH := Ck (o := bx E r rm) (s := s) (q := (cC p1 r, cC p2 r));generalize tC : dO (bx E r rm) s (cC p1 r, cC p2 r) = s1 at *
 by_cases q1 : s1.ph = 5
 ·rw [if_pos q1];rw [q1] at H1;rintro cs R jN;obtain ⟨hv, fv, cv, b, S, lk, hS, c6, ga, rfl, rfl⟩ := id jN;have dF := jN.closed;have aT := Ho (E := E) (k := r) (rm := rm) (ph := s.ph) (I := s.I) (J := s.J) (T := s.T) (dirty := s.dirty) (hv := hv) (fv := fv) (cv := cv) (b := b) ap rfl c6 (by omega) g1 ax.1 ax.2;clear tC;generalize cC p1 r = a1 at *;generalize cC p2 r = a2 at *;generalize cC b3 r = a3 at *;generalize cC b7 r = a4 at *;refine dv (f := 54) Tryz.func54 rfl (dq rfl) (by exact eu rfl) ?_;(refine a7 ?_);refine kl 1000 rfl rfl rfl rfl aT rfl rfl dF rfl rfl ?_;(refine a7 ?_);refine il rfl rfl rfl rfl rfl rfl rfl rfl H1 jN (fun au ay ck => ?_);(refine a7 ?_);obtain ⟨bR, dh, db, bT, dm, gY, fQ, hk, iD, rfl, rfl⟩ := id ck
  ((refine eP rfl aN rfl (bB.refl _) ck.closed rfl fc ?_))
  exact ⟨_, rfl, rfl, ck⟩
 ·rw [if_neg q1];obtain ⟨m1, m2, m3, m4⟩ := oH q1;rw [Bx q1] at H1;have c9 := Hp (E := E) (r := r) (rm := rm) (s := s1) (x := cC b3 r) (y := cC b7 r) (by omega) wZ q1;have wY := Ci (o := bx E r rm) (s := s1) (q := (cC b3 r, cC b7 r));have XV := Cj (o := bx E r rm) (q := (cC b3 r, cC b7 r)) wZ;have GK := Ck (o := bx E r rm) (s := s1) (q := (cC b3 r, cC b7 r));generalize YQ : dO (bx E r rm) s1 (cC b3 r, cC b7 r) = s2 at *;have ej := aae (E := E) (r := r) (rm := rm) (s := { s2 with I := s2.I + 1 }) ap fF ak (by omega) (by show s2.dirty = false; rw [wY.1, rW.1]; exact hd) XV;rw [show lB (bx E r rm) { s2 with I := s2.I + 1 } = lB (bx E r rm) s2 from rfl, show fo ({ s2 with I := s2.I + 1 } : bu.aV ao) 1 0 1 = fo s2 1 0 1 from rfl] at ej;rintro cs R jN;obtain ⟨hv, fv, cv, b, S, lk, hS, c6, ga, rfl, rfl⟩ := id jN;have dF := jN.closed;have aT := Ho (E := E) (k := r) (rm := rm) (ph := s.ph) (I := s.I) (J := s.J) (T := s.T) (dirty := s.dirty) (hv := hv) (fv := fv) (cv := cv) (b := b) ap rfl c6 (by omega) g1 ax.1 ax.2;clear tC YQ
  by_cases q2 : s2.ph = 5
  ·rw [if_pos q2];rw [q2] at c9;clear ej;generalize cC p1 r = a1 at *;generalize cC p2 r = a2 at *;generalize cC b3 r = a3 at *;generalize cC b7 r = a4 at *;refine dv (f := 54) Tryz.func54 rfl (dq rfl) (by exact eu rfl) ?_;(refine a7 ?_);refine kl 1000 rfl rfl rfl rfl aT rfl rfl dF rfl rfl ?_;(refine a7 ?_);refine il rfl rfl rfl rfl rfl rfl rfl rfl H1 jN (fun au ay ck => ?_);(refine a7 ?_);refine il rfl rfl rfl rfl rfl rfl rfl rfl c9 ck (fun au ay ck => ?_);(refine a7 ?_);obtain ⟨bR, dh, db, bT, dm, gY, fQ, hk, iD, rfl, rfl⟩ := id ck
   ((refine eP rfl aN rfl (bB.refl _) ck.closed rfl fc ?_))
   exact ⟨_, rfl, rfl, ck⟩
  ·rw [if_neg q2];rw [Bx q2] at c9;obtain ⟨m5, m6, m7, m8⟩ := GK q2;have V6 : s.I = s2.I := by omega
   generalize cC p1 r = a1 at *;generalize cC p2 r = a2 at *;generalize cC b3 r = a3 at *;generalize cC b7 r = a4 at *
   by_cases bO : s.I + 1 < E.length
   ·rw [if_pos bO, show ({ s2 with I := s.I + 1 } : bu.aV ao) = { s2 with I := s2.I + 1 } by rw [V6]];have aer : ¬ (s2.I : Int) + 1 = (E.length : Int) := by omega
    refine dv (f := 54) Tryz.func54 rfl (dq rfl) (by exact eu rfl) ?_;(refine a7 ?_);refine kl 1000 rfl rfl rfl rfl aT rfl rfl dF rfl rfl ?_;(refine a7 ?_);refine il rfl rfl rfl rfl rfl rfl rfl rfl H1 jN (fun au ay ck => ?_);(refine a7 ?_);refine il rfl rfl rfl rfl rfl rfl rfl rfl c9 ck (fun au ay F4 => ?_);clear ck;obtain ⟨bR, dh, db, bT, dm, gY, fQ, hk, iD, rfl, rfl⟩ := id F4;have fG : dE E r rm { s2 with I := s2.I + 1 } (eC E r rm s2.ph ((s2.I : Int) + 1) s2.J s2.T s2.dirty bR dh db bT gY) (dP bT dm bR dh db s2.hot s2.fnd s2.ch) := ⟨bR, dh, db, bT, dm, gY, fQ, hk, iD, rfl, rfl⟩;(repeat first | (with_reducible apply dQ (id := 3) [0,1,2,3,4,5,6,7,8,9,10]); kernel_rfl; kernel_rfl; rfl | refine c5 ?_)
    ((refine eP rfl aN rfl (bB.refl _) fG.closed rfl fc ?_))
    exact ⟨_, rfl, rfl, fG⟩
   ·rw [if_neg bO];have aer : (s2.I : Int) + 1 = (E.length : Int) := by omega
    refine dv (f := 54) Tryz.func54 rfl (dq rfl) (by exact eu rfl) ?_;(refine a7 ?_);refine kl 1000 rfl rfl rfl rfl aT rfl rfl dF rfl rfl ?_;(refine a7 ?_);refine il rfl rfl rfl rfl rfl rfl rfl rfl H1 jN (fun au ay ck => ?_);(refine a7 ?_);refine il rfl rfl rfl rfl rfl rfl rfl rfl c9 ck (fun au ay F4 => ?_);clear ck;obtain ⟨bR, dh, db, bT, dm, gY, fQ, hk, iD, rfl, rfl⟩ := id F4;have fG : dE E r rm { s2 with I := s2.I + 1 } (eC E r rm s2.ph ((s2.I : Int) + 1) s2.J s2.T s2.dirty bR dh db bT gY) (dP bT dm bR dh db s2.hot s2.fnd s2.ch) := ⟨bR, dh, db, bT, dm, gY, fQ, hk, iD, rfl, rfl⟩;(repeat first | (with_reducible apply dQ (id := 3) [0,1,2,3,4,5,6,7,8,9,10]); kernel_rfl; kernel_rfl; rfl | refine c5 ?_);refine il rfl rfl rfl rfl rfl rfl rfl rfl ej fG (fun au ay lp => ?_);(refine a7 ?_);obtain ⟨CE, B2, BM, dM, yg, C0, Cb, Cs, Cr, rfl, rfl⟩ := id lp
    ((refine eP rfl aN rfl (bB.refl _) lp.closed rfl fc ?_))
    exact ⟨_, rfl, rfl, lp⟩
end
section
variable {E : List (Int × bS)} {r rm : Nat}
theorem XP {o : cU ao} {s : bu.aV ao} {q : Option ao} (h : s.fnd = []) : (kD o s q).fnd = [] := by
 cases q with
 | none => exact h
 | some x => exact Cj h
theorem XR {o : cU ao} {s : bu.aV ao} {q : Option ao} : (kD o s q).dirty = s.dirty ∧ (kD o s q).ch = s.ch ∧ (kD o s q).hot.length ≤ s.hot.length + 1 := by
 cases q with
 | none => exact ⟨rfl, rfl, Nat.le_succ _⟩
 | some x => exact Ci
theorem XQ {o : cU ao} {s : bu.aV ao} {q : Option ao} (h : (kD o s q).ph ≠ 5) : (kD o s q).ph = s.ph ∧ (kD o s q).I = s.I ∧ (kD o s q).J = s.J ∧ (kD o s q).T = s.T := by
 cases q with
 | none => exact ⟨rfl, rfl, rfl, rfl⟩
 | some x => exact Ck h
theorem tL {p : ao} (h : gJ p = true) : bA p.1 p.2 = true := by
 have h := sr.1 h;unfold bA; simp only [dc, cq]; omega
theorem OI {a b : bS} (h1 : bA a.1.1 a.1.2 = true) (h2 : bA a.2.1 a.2.2 = true) (an : bA b.1.1 b.1.2 = true) (aE : bA b.2.1 b.2.2 = true) : A2 (ht a b) := by
 rw [← Hy h1 h2 an aE]; exact aaT ..
theorem Pf {n I J : Nat} (h : J < n) : ((cn n I J).1 : Int) = (if (J : Int) + 1 = (n : Int) then (I : Int) + 1 else I) ∧ ((cn n I J).2 : Int) = (if (J : Int) + 1 = (n : Int) then (I : Int) + 2 else (J : Int) + 1) ∧ (decide ((if (J : Int) + 1 = (n : Int) then (I : Int) + 2 else (J : Int) + 1) < (n : Int)) = decide ((cn n I J).2 < n)) := by
 unfold cn
 by_cases h1 : n ≤ J + 1
 ·have : (J : Int) + 1 = (n : Int) := by omega
  rw [if_pos h1, if_pos this, if_pos this];refine ⟨by simp, by simp, ?_⟩;rw [decide_eq_decide]; simp only; omega
 ·have : ¬ (J : Int) + 1 = (n : Int) := by omega
  rw [if_neg h1, if_neg this, if_neg this];refine ⟨by simp, by simp, ?_⟩;rw [decide_eq_decide]; simp only; omega
theorem aab {s : bu.aV ao} (ap : r ≤ 28) (fF : gI (E.map Prod.snd) = true) (ak : E.length ≤ 300) (pB : s.I < s.J) (kB : s.J < E.length) (hd : s.dirty = false) (ar : s.fnd = []) (aU : s.hot.length ≤ 1024) (ho : s.ph = 1) : gg E r rm 55 [] s lJ (tY (bx E r rm) s) := by
 obtain ⟨o, ⟨p1, p2⟩, ⟨b3, b7⟩, g1⟩ : ∃ o p q, E[s.I]? = some (o, p, q) := ⟨_, _, _, bN (by omega)⟩;obtain ⟨eV, ⟨v1, v2⟩, ⟨w1, w2⟩, g2⟩ : ∃ o p q, E[s.J]? = some (o, p, q) := ⟨_, _, _, bN kB⟩;have iz := FC g1;have lS := FC g2;have ax := qV fF s.I;have hm := qV fF s.J;rw [iz] at ax;rw [lS] at hm;have BR : (bx E r rm).n = E.length := mP ..
 have LM : (bx E r rm).tZ s.I s.J = mb r (ht ((p1, p2), (b3, b7)) ((v1, v2), (w1, w2))) := by
  show z8 r ((E.map Prod.snd).getD s.I mx) ((E.map Prod.snd).getD s.J mx) = _;rw [iz, lS]; rfl
 have aT := H5 (a1 := p1) (a2 := p2) (b1 := b3) (b2 := b7) (c1 := v1) (c2 := v2) (d1 := w1) (d2 := w2);rw [show kp p1 p2 b3 b7 v1 v2 w1 w2 = ht ((p1, p2), (b3, b7)) ((v1, v2), (w1, w2)) from Hy (a := ((p1, p2), (b3, b7))) (b := ((v1, v2), (w1, w2))) (tL ax.1) (tL ax.2) (tL hm.1) (tL hm.2)] at aT;have H1 := NW (E := E) (r := r) (rm := rm) (s := s) ap (OI (a := ((p1, p2), (b3, b7))) (b := ((v1, v2), (w1, w2))) (tL ax.1) (tL ax.2) (tL hm.1) (tL hm.2)) (fun af => Qo ap (a := ((p1, p2), (b3, b7))) (b := ((v1, v2), (w1, w2))) ax.1 ax.2 (by unfold z8; rw [if_pos af])) (by omega) ar (by omega);unfold tY;rw [LM, BR];have rW := XR (o := bx E r rm) (s := s) (q := mb r (ht ((p1, p2), (b3, b7)) ((v1, v2), (w1, w2))));have wZ := XP (o := bx E r rm) (q := mb r (ht ((p1, p2), (b3, b7)) ((v1, v2), (w1, w2)))) ar;have oH := XQ (o := bx E r rm) (s := s) (q := mb r (ht ((p1, p2), (b3, b7)) ((v1, v2), (w1, w2))));generalize kD (bx E r rm) s (mb r (ht ((p1, p2), (b3, b7)) ((v1, v2), (w1, w2)))) = s1 at *;generalize ht ((p1, p2), (b3, b7)) ((v1, v2), (w1, w2)) = M at *;have lN := wK (ii := (s.I : Int)) rfl g1;have rq := wK (ii := (s.J : Int)) rfl g2;have i0 : (0 : Int) ≤ (s.I : Int) := by omega
 have i1 : (s.I : Int) < (E.length : Int) := by omega
 have Hg : (0 : Int) ≤ (s.J : Int) := by omega
 have qN : (s.J : Int) < (E.length : Int) := by omega
 rintro cs R jN;obtain ⟨hv, fv, cv, b, S, lk, hS, c6, ga, rfl, rfl⟩ := id jN;clear LM iz lS ax hm BR
 by_cases q1 : s1.ph = 5
 ·rw [if_pos q1];rw [q1] at H1;refine dv (f := 55) Tryz.func55 rfl (dq rfl) (by exact eu rfl) ?_;(repeat first | (with_reducible apply dQ (id := 0) [22,23,0,1,2,3,4,5,6,7,8,9,10,11,12,13,14,15,16,17,18,19,20,21,24,25]); kernel_rfl; kernel_rfl; rfl | refine c5 ?_ | refine iw ?_);refine il rfl rfl rfl rfl rfl rfl rfl rfl H1 jN (fun au ay ck => ?_);(refine a7 ?_);obtain ⟨bR, dh, db, bT, dm, gY, fQ, hk, iD, rfl, rfl⟩ := id ck
  ((refine eP rfl aN rfl (bB.refl _) ck.closed rfl fc ?_))
  exact ⟨_, rfl, rfl, ck⟩
 ·rw [if_neg q1];rw [Bx q1] at H1;obtain ⟨m1, m2, m3, m4⟩ := oH q1;have jT := Pf (n := E.length) (I := s1.I) (J := s1.J) (by omega);rw [← m2, ← m3];have ej := NX (E := E) (r := r) (rm := rm) (s := { s1 with I := (cn E.length s1.I s1.J).1, J := (cn E.length s1.I s1.J).2 }) ap fF ak (by omega) (by show s1.dirty = false; rw [rW.1]; exact hd) wZ;rw [show lB (bx E r rm) { s1 with I := (cn E.length s1.I s1.J).1, J := (cn E.length s1.I s1.J).2 } = lB (bx E r rm) s1 from rfl] at ej
  by_cases q2 : (cn E.length s1.I s1.J).2 < E.length
  ·rw [if_pos q2];have hl := jT.2.2;rw [cw q2] at hl;rw [m2, m3];refine dv (f := 55) Tryz.func55 rfl (dq rfl) (by exact eu rfl) ?_;(repeat first | (with_reducible apply dQ (id := 0) [22,23,0,1,2,3,4,5,6,7,8,9,10,11,12,13,14,15,16,17,18,19,20,21,24,25]); kernel_rfl; kernel_rfl; rfl | refine c5 ?_ | refine iw ?_);refine il rfl rfl rfl rfl rfl rfl rfl rfl H1 jN (fun au ay ck => ?_);obtain ⟨bR, dh, db, bT, dm, gY, fQ, hk, iD, rfl, rfl⟩ := id ck;have bH := zE (E := E) (k := r) (rm := rm) (ph := s1.ph) (I := s1.I) (J := s1.J) (T := s1.T) (dirty := s1.dirty) (hv := bR) (fv := dh) (cv := db) (b := bT) hk E.length (by omega) (by omega);rw [hl, ← jT.1, ← jT.2.1] at bH;have fG : dE E r rm { s1 with I := (cn E.length s1.I s1.J).1, J := (cn E.length s1.I s1.J).2 } (eC E r rm s1.ph (cn E.length s1.I s1.J).1 (cn E.length s1.I s1.J).2 s1.T s1.dirty bR dh db bT gY) (dP bT dm bR dh db s1.hot s1.fnd s1.ch) := ⟨bR, dh, db, bT, dm, gY, fQ, hk, iD, rfl, rfl⟩;(refine a7 ?_);refine kl 1000 rfl rfl rfl rfl bH rfl rfl ck.closed rfl rfl ?_;(refine a7 ?_)
   ((refine eP rfl aN rfl (bB.refl _) fG.closed rfl fc ?_))
   refine ⟨_, rfl, rfl, ?_⟩;rw [← m2, ← m3];exact fG
  ·rw [if_neg q2];have hl := jT.2.2;rw [c3 q2] at hl;rw [m2, m3];refine dv (f := 55) Tryz.func55 rfl (dq rfl) (by exact eu rfl) ?_;(repeat first | (with_reducible apply dQ (id := 0) [22,23,0,1,2,3,4,5,6,7,8,9,10,11,12,13,14,15,16,17,18,19,20,21,24,25]); kernel_rfl; kernel_rfl; rfl | refine c5 ?_ | refine iw ?_);refine il rfl rfl rfl rfl rfl rfl rfl rfl H1 jN (fun au ay ck => ?_);obtain ⟨bR, dh, db, bT, dm, gY, fQ, hk, iD, rfl, rfl⟩ := id ck;have bH := zE (E := E) (k := r) (rm := rm) (ph := s1.ph) (I := s1.I) (J := s1.J) (T := s1.T) (dirty := s1.dirty) (hv := bR) (fv := dh) (cv := db) (b := bT) hk E.length (by omega) (by omega);rw [hl, ← jT.1, ← jT.2.1] at bH;have fG : dE E r rm { s1 with I := (cn E.length s1.I s1.J).1, J := (cn E.length s1.I s1.J).2 } (eC E r rm s1.ph (cn E.length s1.I s1.J).1 (cn E.length s1.I s1.J).2 s1.T s1.dirty bR dh db bT gY) (dP bT dm bR dh db s1.hot s1.fnd s1.ch) := ⟨bR, dh, db, bT, dm, gY, fQ, hk, iD, rfl, rfl⟩;(refine a7 ?_);refine kl 1000 rfl rfl rfl rfl bH rfl rfl ck.closed rfl rfl ?_;(refine a7 ?_);refine il rfl rfl rfl rfl rfl rfl rfl rfl ej fG (fun au ay lp => ?_);(refine a7 ?_);obtain ⟨CE, B2, BM, dM, yg, C0, Cb, Cs, Cr, rfl, rfl⟩ := id lp
   ((refine eP rfl aN rfl (bB.refl _) lp.closed rfl fc ?_))
   exact ⟨_, rfl, rfl, lp⟩
end
section
variable {E : List (Int × bS)} {r rm : Nat}
theorem Vs {r : Nat} {l m : ao × ao} (h1 : eM r l.1.1 l.1.2 = true) (h2 : eM r l.2.1 l.2.2 = true) (an : eM r m.1.1 m.1.2 = true) (aE : eM r m.2.1 m.2.2 = true) : A2 (oy r l m) := by
 unfold oy
 split
 ·exact .inl rfl
 ·exact OI (nc h1) (nc h2) (nc an) (nc aE)
theorem aaa {s : bu.aV ao} (ap : r ≤ 28) (aj : jD s.ch) (aD : 0 < s.ch.length) (pB : s.I < s.J) (kB : s.J < (aW s.ch).length) (aq : ∀ l ∈ aW s.ch, eM r l.1.1 l.1.2 = true ∧ eM r l.2.1 l.2.2 = true) (ar : s.fnd = []) (aU : s.hot.length ≤ 1024) (ho : s.ph = 3) : gg E r rm 57 [] s lJ (so (bx E r rm) s) := by
 have wW : (aW s.ch).length ≤ 300 * 1100 := ha (xk (m := 1100) fun c h => (aj.2 c h).2) (ju _ aj.1);obtain ⟨a1, a2, a3, a4, g1⟩ : ∃ a b c d, (aW s.ch)[s.I]? = some ((a, b), (c, d)) := ⟨_, _, _, _, bN (by omega)⟩;obtain ⟨b1, b2, ed, dM, g2⟩ : ∃ a b c d, (aW s.ch)[s.J]? = some ((a, b), (c, d)) := ⟨_, _, _, _, bN kB⟩;obtain ⟨eW, z2⟩ := aq _ (c7 g1);obtain ⟨z3, z4⟩ := aq _ (c7 g2);have aT := ac9 ap (l := ((a1, a2), (a3, a4))) (m := ((b1, b2), (ed, dM))) eW z2 z3 z4;have fP := Vs (l := ((a1, a2), (a3, a4))) (m := ((b1, b2), (ed, dM))) eW z2 z3 z4;have hcut : (bx E r rm).cut ((a1, a2), (a3, a4)) ((b1, b2), (ed, dM)) = mb r (oy r ((a1, a2), (a3, a4)) ((b1, b2), (ed, dM))) := Lk r _ _;have H1 := NW (E := E) (r := r) (rm := rm) (s := s) ap fP (fun af => Ll (l := ((a1, a2), (a3, a4))) (m := ((b1, b2), (ed, dM))) eW z2 (by rw [Lk, if_pos af])) (by omega) ar (by omega);have lN := Oc (ii := (s.I : Int)) rfl g1;have rq := Oc (ii := (s.J : Int)) rfl g2
 have em : so (bx E r rm) s = if (bu.dW (bx E r rm) s (mb r (oy r ((a1, a2), (a3, a4)) ((b1, b2), (ed, dM))))).ph = 5 then bu.dW (bx E r rm) s (mb r (oy r ((a1, a2), (a3, a4)) ((b1, b2), (ed, dM)))) else
   if (cn (aW s.ch).length s.I s.J).2 < (aW s.ch).length then { bu.dW (bx E r rm) s (mb r (oy r ((a1, a2), (a3, a4)) ((b1, b2), (ed, dM)))) with I := (cn (aW s.ch).length s.I s.J).1, J := (cn (aW s.ch).length s.I s.J).2 } else nH (bu.dW (bx E r rm) s (mb r (oy r ((a1, a2), (a3, a4)) ((b1, b2), (ed, dM))))) := by
  unfold so;simp only [g1, g2, hcut]
 rw [em];clear em hcut fP eW z2 z3 z4 g1 g2;simp only at aT H1;generalize oy r ((a1, a2), (a3, a4)) ((b1, b2), (ed, dM)) = M at *;have jT := Pf (n := (aW s.ch).length) (I := s.I) (J := s.J) kB;have i0 : (0 : Int) ≤ (s.I : Int) := by omega
 have i1 : (s.I : Int) < ((aW s.ch).length : Int) := by omega
 have Hg : (0 : Int) ≤ (s.J : Int) := by omega
 have qN : (s.J : Int) < ((aW s.ch).length : Int) := by omega
 rintro cs R jN;obtain ⟨hv, fv, cv, b, S, lk, hS, c6, ga, rfl, rfl⟩ := id jN;obtain rfl := ga ho
 by_cases af : M.k = 1
 ·have rP : mb r M = some (iG r M) := if_pos af;rw [rP] at H1 ⊢;have rW := Ci (o := bx E r rm) (s := s) (q := iG r M);have wZ := Cj (o := bx E r rm) (q := iG r M) ar;have oH := Ck (o := bx E r rm) (s := s) (q := iG r M);unfold bu.dW;simp only [kD] at H1 ⊢;generalize dO (bx E r rm) s (iG r M) = s1 at *
  by_cases q1 : s1.ph = 5
  ·rw [if_pos q1, if_pos q1];rw [q1] at H1;obtain ⟨mk, HD, md, dn, Hz, HE, HF, HG, HH⟩ := M;obtain rfl : mk = 1 := af;refine dv (f := 57) Tryz.func57 rfl (dq rfl) (by exact eu rfl) ?_;(repeat first | (with_reducible apply dQ (id := 1) [20,21,0,1,2,3,4,5,6,7,8,9,10,11,12,13,14,15,16,17,18,19,22,23]); kernel_rfl; kernel_rfl; rfl | (with_reducible apply dQ (id := 2) [7,0,1,2,3,4,5,6,8]); kernel_rfl; kernel_rfl; rfl | refine c5 ?_ | refine iw ?_);refine il rfl rfl rfl rfl rfl rfl rfl rfl H1 jN (fun au ay ck => ?_);(refine a7 ?_);obtain ⟨bR, dh, db, bT, dm, gY, fQ, hk, iD, rfl, rfl⟩ := id ck
   ((refine eP rfl aN rfl (bB.refl _) ck.closed rfl fc ?_))
   exact ⟨_, rfl, rfl, ck⟩
  ·rw [if_neg q1, if_neg q1];rw [Bx q1] at H1;obtain ⟨m1, m2, m3, m4⟩ := oH q1;have tf : s1.ch = s.ch := rW.2.1;have ej := NY (E := E) (r := r) (rm := rm) (s := { s1 with dirty := true, I := (cn (aW s.ch).length s.I s.J).1, J := (cn (aW s.ch).length s.I s.J).2 }) wZ (by show jD s1.ch; rw [tf]; exact aj) (by show 0 < s1.ch.length; rw [tf]; exact aD);rw [show nH ({ s1 with dirty := true, I := (cn (aW s.ch).length s.I s.J).1, J := (cn (aW s.ch).length s.I s.J).2 } : bu.aV ao) = nH ({ s1 with dirty := true } : bu.aV ao) from rfl] at ej;have nW : (s1.I : Int) = s.I := by omega
   have Cv : (s1.J : Int) = s.J := by omega
   obtain ⟨mk, HD, md, dn, Hz, HE, HF, HG, HH⟩ := M;obtain rfl : mk = 1 := af
   by_cases q2 : (cn (aW s.ch).length s.I s.J).2 < (aW s.ch).length
   ·rw [if_pos q2];have hl := jT.2.2;rw [cw q2] at hl;refine dv (f := 57) Tryz.func57 rfl (dq rfl) (by exact eu rfl) ?_;(repeat first | (with_reducible apply dQ (id := 1) [20,21,0,1,2,3,4,5,6,7,8,9,10,11,12,13,14,15,16,17,18,19,22,23]); kernel_rfl; kernel_rfl; rfl | (with_reducible apply dQ (id := 2) [7,0,1,2,3,4,5,6,8]); kernel_rfl; kernel_rfl; rfl | refine c5 ?_ | refine iw ?_);refine il rfl rfl rfl rfl rfl rfl rfl rfl H1 jN (fun au ay ck => ?_);obtain ⟨bR, dh, db, bT, dm, gY, fQ, hk, iD, rfl, rfl⟩ := id ck;obtain rfl := iD (by omega);have bH := zE (E := E) (k := r) (rm := rm) (ph := s1.ph) (I := s1.I) (J := s1.J) (T := s1.T) (dirty := true) (hv := bR) (fv := dh) (cv := db) (b := bT) hk (aW s1.ch).length (by omega) (by omega);rw [tf, nW, Cv, hl, ← jT.1, ← jT.2.1] at bH;have fG : dE E r rm { s1 with dirty := true, I := (cn (aW s.ch).length s.I s.J).1, J := (cn (aW s.ch).length s.I s.J).2 } (eC E r rm s1.ph (cn (aW s.ch).length s.I s.J).1 (cn (aW s.ch).length s.I s.J).2 s1.T true bR dh db bT (.p (cc 4 (aW s1.ch).length (jX (aW s1.ch))))) (dP bT dm bR dh db s1.hot s1.fnd s1.ch) := ⟨bR, dh, db, bT, dm, _, fQ, rfl, fun _ => rfl, rfl, rfl⟩;rw [tf] at fG;rw [nW, Cv, tf];(refine a7 ?_);refine kl 1000 rfl rfl rfl rfl bH rfl rfl rfl rfl rfl ?_;(refine a7 ?_)
    ((refine eP rfl aN rfl (bB.refl _) fG.closed rfl fc ?_))
    exact ⟨_, rfl, rfl, fG⟩
   ·rw [if_neg q2];have hl := jT.2.2;rw [c3 q2] at hl;refine dv (f := 57) Tryz.func57 rfl (dq rfl) (by exact eu rfl) ?_;(repeat first | (with_reducible apply dQ (id := 1) [20,21,0,1,2,3,4,5,6,7,8,9,10,11,12,13,14,15,16,17,18,19,22,23]); kernel_rfl; kernel_rfl; rfl | (with_reducible apply dQ (id := 2) [7,0,1,2,3,4,5,6,8]); kernel_rfl; kernel_rfl; rfl | refine c5 ?_ | refine iw ?_);refine il rfl rfl rfl rfl rfl rfl rfl rfl H1 jN (fun au ay ck => ?_);obtain ⟨bR, dh, db, bT, dm, gY, fQ, hk, iD, rfl, rfl⟩ := id ck;obtain rfl := iD (by omega);have bH := zE (E := E) (k := r) (rm := rm) (ph := s1.ph) (I := s1.I) (J := s1.J) (T := s1.T) (dirty := true) (hv := bR) (fv := dh) (cv := db) (b := bT) hk (aW s1.ch).length (by omega) (by omega);rw [tf, nW, Cv, hl, ← jT.1, ← jT.2.1] at bH;have fG : dE E r rm { s1 with dirty := true, I := (cn (aW s.ch).length s.I s.J).1, J := (cn (aW s.ch).length s.I s.J).2 } (eC E r rm s1.ph (cn (aW s.ch).length s.I s.J).1 (cn (aW s.ch).length s.I s.J).2 s1.T true bR dh db bT (.p (cc 4 (aW s1.ch).length (jX (aW s1.ch))))) (dP bT dm bR dh db s1.hot s1.fnd s1.ch) := ⟨bR, dh, db, bT, dm, _, fQ, rfl, fun _ => rfl, rfl, rfl⟩;rw [tf] at fG ej;rw [nW, Cv, tf];(refine a7 ?_);refine kl 1000 rfl rfl rfl rfl bH rfl rfl rfl rfl rfl ?_;(refine a7 ?_);refine il rfl rfl rfl rfl rfl rfl rfl rfl ej fG (fun au ay lp => ?_);(refine a7 ?_);obtain ⟨CE, B2, BM, dM, yg, C0, Cb, Cs, Cr, rfl, rfl⟩ := id lp
    ((refine eP rfl aN rfl (bB.refl _) lp.closed rfl fc ?_))
    exact ⟨_, rfl, rfl, lp⟩
 ·have rP : mb r M = none := if_neg af;rw [rP];have Wd : bu.dW (bx E r rm) s none = s := rfl;rw [Wd, if_neg (by omega)];clear H1;have ej := NY (E := E) (r := r) (rm := rm) (s := { s with I := (cn (aW s.ch).length s.I s.J).1, J := (cn (aW s.ch).length s.I s.J).2 }) ar aj aD;rw [show nH ({ s with I := (cn (aW s.ch).length s.I s.J).1, J := (cn (aW s.ch).length s.I s.J).2 } : bu.aV ao) = nH s from rfl] at ej;have bH := zE (E := E) (k := r) (rm := rm) (ph := s.ph) (I := s.I) (J := s.J) (T := s.T) (dirty := s.dirty) (hv := hv) (fv := fv) (cv := cv) (b := b) c6 (aW s.ch).length (by omega) (by omega);have fG : dE E r rm { s with I := (cn (aW s.ch).length s.I s.J).1, J := (cn (aW s.ch).length s.I s.J).2 } (eC E r rm s.ph (cn (aW s.ch).length s.I s.J).1 (cn (aW s.ch).length s.I s.J).2 s.T s.dirty hv fv cv b (.p (cc 4 (aW s.ch).length (jX (aW s.ch))))) (dP b S hv fv cv s.hot s.fnd s.ch) := ⟨hv, fv, cv, b, S, _, hS, rfl, fun _ => rfl, rfl, rfl⟩;obtain ⟨mk, HD, md, dn, Hz, HE, HF, HG, HH⟩ := M;have af : ¬ mk = 1 := af
  by_cases q2 : (cn (aW s.ch).length s.I s.J).2 < (aW s.ch).length
  ·rw [if_pos q2];have hl := jT.2.2;rw [cw q2] at hl;rw [hl, ← jT.1, ← jT.2.1] at bH;refine dv (f := 57) Tryz.func57 rfl (dq rfl) (by exact eu rfl) ?_;(repeat first | (with_reducible apply dQ (id := 1) [20,21,0,1,2,3,4,5,6,7,8,9,10,11,12,13,14,15,16,17,18,19,22,23]); kernel_rfl; kernel_rfl; rfl | (with_reducible apply dQ (id := 2) [7,0,1,2,3,4,5,6,8]); kernel_rfl; kernel_rfl; rfl | refine c5 ?_ | refine iw ?_);refine kl 1000 rfl rfl rfl rfl bH rfl rfl rfl rfl rfl ?_;(refine a7 ?_)
   ((refine eP rfl aN rfl (bB.refl _) fG.closed rfl fc ?_))
   exact ⟨_, rfl, rfl, fG⟩
  ·rw [if_neg q2];have hl := jT.2.2;rw [c3 q2] at hl;rw [hl, ← jT.1, ← jT.2.1] at bH;refine dv (f := 57) Tryz.func57 rfl (dq rfl) (by exact eu rfl) ?_;(repeat first | (with_reducible apply dQ (id := 1) [20,21,0,1,2,3,4,5,6,7,8,9,10,11,12,13,14,15,16,17,18,19,22,23]); kernel_rfl; kernel_rfl; rfl | (with_reducible apply dQ (id := 2) [7,0,1,2,3,4,5,6,8]); kernel_rfl; kernel_rfl; rfl | refine c5 ?_ | refine iw ?_);refine kl 1000 rfl rfl rfl rfl bH rfl rfl rfl rfl rfl ?_;(refine a7 ?_);refine il rfl rfl rfl rfl rfl rfl rfl rfl ej fG (fun au ay lp => ?_);(refine a7 ?_);obtain ⟨CE, B2, BM, dM, yg, C0, Cb, Cs, Cr, rfl, rfl⟩ := id lp
   ((refine eP rfl aN rfl (bB.refl _) lp.closed rfl fc ?_))
   exact ⟨_, rfl, rfl, lp⟩
end
end Go.Proofs.YtbcecodakfejaaaGreat
