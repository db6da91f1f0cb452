/-
  My own texts, without what this claim does not need. My own text.
-/
import Derived.Test.YtbcecodakfejaaaGreatSApartK12
set_option maxRecDepth 100000
set_option maxHeartbeats 64000000
set_option linter.unusedVariables false
set_option linter.unusedSimpArgs false
set_option linter.unusedSectionVars false
open Go.Proofs.Tryz renaming prog → ag
namespace Go.Proofs.YtbcecodakfejaaaGreat
open Go.RowKit
open bp
theorem Tg {ch : List (List an × List Int)} (aj : ∀ c ∈ ch, c.1.length = c.2.length + 1 ∧ c.1.length ≤ 1100) (hl : ch.length ≤ 300) : oS ag 156 [oP ch] (fun v q => v = aM q.v ∧ q = rS q.v (aX ch)) := by
 refine Ey rfl (fun v q h => by obtain ⟨rfl, _⟩ := h; rfl) ?_;refine de (f := 156) Tryz.func156 rfl (db rfl) (by exact nu) ?_;(refine aZ ?_);refine nS 0 155 4 rfl ?_
 skip
 refine j7 28 (SE ch) ch.length (bw 0 (rS (.slice none 0 0) [])) _ [] ⟨0, 0, .slice none 0 0, dA _, rfl, rfl, rfl, rfl, rfl⟩ (ms _ _ _) rfl ⟨rfl, rfl, rfl, rfl, trivial⟩ trivial rfl ?_;rintro n R aL bj ⟨i, ii, v, hi, rfl, hc, rfl, rfl, rfl⟩ c3;clear c3
 by_cases ak : i < ch.length
 ·have q2 : ii < (ch.length : Int) := by omega
  have bE : 0 ≤ ii := by omega
  obtain ⟨c, g1⟩ : ∃ c, ch[i]? = some c := ⟨_, bQ ak⟩;obtain ⟨hG, gH⟩ := aj c (c5 g1);have kW := vJ hc g1
  have ahE : (aX (ch.take i)).length ≤ 300 * 1100 := by
   refine h8 (Cv (m := 1100) fun c sU => (aj c (nN sU)).2) (j1 _ ?_);rw [dS]; omega
  have b5 : aX (ch.take (i + 1)) = aX (ch.take i) ++ iq c.1 := by
   rw [nO ak, Ct, show ch[i] = c from lP ((bQ ak).symm.trans g1)];simp [aX]
  have Mx : (iq c.1).length = c.2.length := by rw [ta]; omega
  obtain ⟨V, D⟩ := c;simp only at hG gH kW b5 Mx;generalize aX (ch.take i) = pre at *;(refine aZ ?_);refine j7 28 (SD ch V D ii pre) D.length (bw 0 (rS v pre)) _ [(5, [.p (cl 2 V.length (bL V)), .p (cl 1 D.length (cu D))])] ⟨0, 0, v, dA _, rfl, rfl, by simp, rfl, rfl⟩ (bt.refl _) rfl ⟨rfl, rfl, rfl, rfl, rfl, rfl, rfl, trivial⟩ ⟨rfl, trivial⟩ rfl ?_;rintro n R aL bj ⟨j, en, v, ae, rfl, og, rfl, rfl, rfl⟩ c3;clear c3;have hg : ((iq V).take j).length = j := by rw [dS]; omega
  by_cases hs : j < D.length
  ·have s2 : en < (D.length : Int) := by omega
   obtain ⟨a, b, g2⟩ : ∃ a b, V[j]? = some (a, b) := ⟨_, _, bQ (by omega)⟩;obtain ⟨c, d, g3⟩ : ∃ a b, V[j + 1]? = some (a, b) := ⟨_, _, bQ (by omega)⟩;have aU := Pw (D := D) g2 g3 (by omega);rw [← og] at aU
   have eB : pre ++ (iq V).take (j + 1) = (pre ++ (iq V).take j) ++ [((a, b), (c, d))] := by
    have h1 : j + 1 < V.length := by omega
    have h2 := aac h1;rw [show V[j] = (a, b) from lP ((bQ (by omega)).symm.trans g2), show V[j + 1] = (c, d) from lP ((bQ (by omega)).symm.trans g3)] at h2;obtain ⟨h3, aE⟩ := bF.1 h2;rw [nO h3, aE, gQ]
   have hlen : (pre ++ (iq V).take j).length ≤ 300 * 1100 + 1100 := by rw [cx, hg]; omega
   (refine mx ?_);refine qs 0 rfl rfl rfl rfl ?q1 ?q2 rfl rfl (fun v' bP => ?_)
   case q1 => exact kL (by show (pre ++ (iq V).take j).length + 1 ≤ 1000000; omega)
   case q2 => show ((pre ++ (iq V).take j).length + 1) * 32 ≤ 140737488355328; omega
   (refine aZ ?_);exact ⟨D.length - (j + 1), bw 0 (rS v' (pre ++ (iq V).take (j + 1))), _, [(5, [.p (cl 2 V.length (bL V)), .p (cl 1 D.length (cu D))])], by omega, ⟨j + 1, en + 1, v', by omega, rfl, by omega, rfl, rfl, rfl⟩, by rw [eB, Z9]; exact ms _ _ _, rfl, ⟨rfl, rfl, rfl, rfl, rfl, rfl, rfl, trivial⟩, ⟨rfl, trivial⟩, rfl⟩
  ·have s2 : ¬ en < (D.length : Int) := by omega
   have lx : (iq V).take j = iq V := hq (by omega);rw [lx, ← b5];(refine aZ ?_);exact ⟨ch.length - (i + 1), bw 0 (rS v (aX (ch.take (i + 1)))), _, [], by omega, ⟨i + 1, ii + 1, v, by omega, rfl, by omega, rfl, rfl, rfl⟩, bt.refl _, rfl, ⟨rfl, rfl, rfl, rfl, trivial⟩, trivial, rfl⟩
 ·have q2 : ¬ ii < (ch.length : Int) := by omega
  have cW : ch.take i = ch := hq (by omega);rw [cW];(refine aZ ?_)
  ((refine yu rfl (a6 rfl aK) rfl rfl (jk _) ?_))
  exact ⟨rfl, rfl⟩
theorem aaa (l : List (an × an)) : tO (me l) := .of fun y ai => by
 obtain ⟨x, _, aa⟩ := List.mem_flatMap.1 ai;simp only [wM, fQ, r2, or_false] at aa;rcases aa with rfl | rfl | rfl | rfl <;> exact ⟨_, rfl⟩
theorem A9 {l : List (List an × List Int)} {i : Nat} {ii : Int} {V : List an} {D : List Int} (hi : ii = i) (h : l[i]? = some (V, D)) : (ii.toNat * 2 + 2 ≤ (ew l).length ∧ ((ew l).drop (ii.toNat * 2)).take 2 = [.p (cl 2 V.length (bL V)), .p (cl 1 D.length (cu D))]) ∧ (ew l)[ii.toNat * 2 + 1]? = some (.p (cl 1 D.length (cu D))) := by
 have h2 := vJ hi h
 have h1 : ii.toNat * 2 + 2 ≤ (ew l).length := by
  have := Br (f := o8) (z := 2) (fun _ => rfl) l;unfold ew;rw [this];have := (bF.1 h).1;omega
 refine ⟨⟨h1, h2⟩, ?_⟩;have h3 : (((ew l).drop (ii.toNat * 2)).take 2)[1]? = some (.p (cl 1 D.length (cu D))) := by rw [h2]; rfl
 rw [fk (by decide), fC] at h3;exact h3
theorem YW {l : List an} {i : Nat} {ii x y : Int} (hi : ii = i) (h : l[i]? = some (x, y)) : ii.toNat * 2 + 2 ≤ (bL l).length ∧ ((bL l).drop (ii.toNat * 2)).take 2 = [.c (.int .i64 x), .c (.int .i64 y)] := by
 have := (bF.1 h).1;refine ⟨by rw [nI]; omega, qt hi h⟩
section
variable {E : List (Int × bU)} {r rm : Nat}
def kc (ch : List (List an × List Int)) : Prop := ch.length ≤ 300 ∧ ∀ c ∈ ch, c.1.length = c.2.length + 1 ∧ c.1.length ≤ 1100
theorem NA {s : bp.aS an} (hd : s.dirty = false) (ap : s.fnd = []) : fM E r rm 104 [] s ln (e7 s 4 0 0) := by
 obtain ⟨ph, I, J, T, dirty, hot, fnd, ch⟩ := s;obtain rfl : dirty = false := hd;obtain rfl : fnd = [] := ap;rintro cs R ⟨hv, fv, cv, b, S, lk, hS, cK, fI, rfl, rfl⟩;have dn : (ep E r rm ph I J T false hv fv cv b lk).all AC.aV = true := by simp only [jI, mr, cK]; rfl
 have bD := G2 (E := E) (k := r) (rm := rm) (ph := ph) (I := I) (J := J) (T := T) (dirty := false) (hv := hv) (fv := fv) (cv := cv) (b := b) cK 4;refine de (f := 104) Tryz.func104 rfl (db rfl) (by exact ed rfl) ?_;(refine aZ ?_);refine jV 1000 rfl rfl rfl rfl bD rfl rfl dn rfl rfl ?_;(refine aZ ?_)
 ((refine eH rfl aK rfl (bt.refl _) rfl rfl eX ?_))
 exact ⟨_, rfl, rfl, hv, fv, cv, b, S, .c (.slice none 0 0), hS, rfl, fun h => (by cases h), rfl, rfl⟩
theorem ZF {s : bp.aS an} (hd : s.dirty = false) (ap : s.fnd = []) (aj : kc s.ch) : fM E r rm 132 [] s ln (if (aX s.ch).length < 2 then e7 s 4 0 0 else e7 s 3 0 1) := by
 obtain ⟨ph, I, J, T, dirty, hot, fnd, ch⟩ := s;obtain rfl : dirty = false := hd;obtain rfl : fnd = [] := ap;have aj : kc ch := aj;rintro cs R ⟨hv, fv, cv, b, S, lk, hS, cK, fI, rfl, rfl⟩;have dn : (ep E r rm ph I J T false hv fv cv b lk).all AC.aV = true := by simp only [jI, mr, cK]; rfl
 have aU := Cl (E := E) (k := r) (rm := rm) (ph := ph) (I := I) (J := J) (T := T) (dirty := false) (hv := hv) (fv := fv) (cv := cv) (b := b) cK 3 1;have bD := Tg (ch := ch) aj.2 aj.1;have eg := NA (E := E) (r := r) (rm := rm) (s := ⟨3, 0, 1, 0, false, hot, [], ch⟩) rfl rfl;simp only;have Mr := aaa (aX ch);have cA := U7 ch;have hS : su rm hot (dO b) S := hS;generalize iK : aX ch = L at *
 by_cases h2 : L.length < 2
 ·rw [if_pos h2];have vX : (1 : Int) ≥ (L.length : Int) := by omega
  refine de (f := 132) Tryz.func132 rfl (db rfl) (by exact ed rfl) ?_;(refine aZ ?_);refine jV 1000 rfl rfl rfl rfl aU rfl rfl dn rfl rfl ?_;(refine aZ ?_);refine MV 3 9 (by decide) rfl rfl rfl rfl bD rfl (jk _) (fun y ai => cb.1 cA y ai) rfl rfl (fun v q h => ?_) (fun q h => ?_)
  ·obtain ⟨rfl, h⟩ := h;rw [h]; exact ⟨rfl, Mr⟩
  obtain ⟨_, h⟩ := h;rw [h];(repeat first | (with_reducible apply dj (id := 2) [0,1,2,3,4,5,6,7,8,9,10]); kernel_rfl; kernel_rfl; rfl | refine cF ?_);refine hY rfl rfl rfl rfl rfl rfl rfl rfl eg ⟨hv, fv, cv, b, S, .p (cl 4 L.length (me L)), hS, rfl, fun _ => by rw [iK], rfl, rfl⟩ (fun aq aw b0 => ?_);(refine aZ ?_);obtain ⟨bP, cX, cS, bK, c7, gA, fA, gI, im, rfl, rfl⟩ := id b0
  ((refine eH rfl aK rfl (bt.refl _) b0.closed rfl eX ?_))
  exact ⟨_, rfl, rfl, b0⟩
 ·rw [if_neg h2];have vX : ¬ (1 : Int) ≥ (L.length : Int) := by omega
  refine de (f := 132) Tryz.func132 rfl (db rfl) (by exact ed rfl) ?_;(refine aZ ?_);refine jV 1000 rfl rfl rfl rfl aU rfl rfl dn rfl rfl ?_;(refine aZ ?_);refine MV 3 9 (by decide) rfl rfl rfl rfl bD rfl (jk _) (fun y ai => cb.1 cA y ai) rfl rfl (fun v q h => ?_) (fun q h => ?_)
  ·obtain ⟨rfl, h⟩ := h;rw [h]; exact ⟨rfl, Mr⟩
  obtain ⟨_, h⟩ := h;rw [h];(repeat first | (with_reducible apply dj (id := 2) [0,1,2,3,4,5,6,7,8,9,10]); kernel_rfl; kernel_rfl; rfl | refine cF ?_)
  ((refine eH rfl aK rfl (bt.refl _) rfl rfl eX ?_))
  exact ⟨_, rfl, rfl, hv, fv, cv, b, S, .p (cl 4 L.length (me L)), hS, rfl, fun _ => by show _ = AC.p (cl 4 (aX ch).length (me (aX ch))); rw [iK], rfl, rfl⟩
def S5 (E : List (Int × bU)) (r rm : Nat) (s : bp.aS an) (hv fv cv : Value) (b : Nat) (S : eQ) (lk : AC) (n : Nat) (R : aG) (aL : List (Nat × ah)) (bj : List (Nat × List AC)) : Prop :=
 ∃ (I J : Nat), I < s.ch.length ∧ n = s.ch.length - I ∧ lR s = lR { s with I := I, J := J } ∧ J ≤ 1100 ∧ R = dF b S hv fv cv s.hot [] s.ch ∧ aL = [(0, qU), (2, .w (.one (.own 1000 1)))] ∧ bj = [(1000, ep E r rm s.ph I J s.T false hv fv cv b lk)]
theorem aeO {s : bp.aS an} {I J : Nat} {V : List an} {D : List Int} (h : s.ch[I]? = some (V, D)) : lR ({ s with I := I, J := J } : bp.aS an) = if J + 1 < V.length then ({ s with I := I, J := J } : bp.aS an) else lR ({ s with I := I + 1, J := 0 } : bp.aS an) := by
 have hl := (bF.1 h).1;unfold lR;have e : s.ch.drop I = (V, D) :: s.ch.drop (I + 1) := by rw [ml hl, (bF.1 h).2]
 simp only [e, tG]
 by_cases ae : J + 1 < V.length
 ·rw [if_pos ae, if_pos ae]
 ·rw [if_neg ae, if_neg ae]; rfl
theorem aeP {s : bp.aS an} (h : s.ch.length ≤ s.I) : lR s = if (aX s.ch).length < 2 then e7 s 4 0 0 else e7 s 3 0 1 := by
 unfold lR;rw [List.drop_eq_nil_of_le h];rfl
theorem NB {s : bp.aS an} (hd : s.dirty = false) (ap : s.fnd = []) (aj : kc s.ch) (bh : s.I < s.ch.length) (ki : s.J ≤ 1100) (gL : s.ph = 2) : fM E r rm 98 [] s ln (lR s) := by
 rintro cs R ⟨hv, fv, cv, b, S, lk, hS, cK, fI, rfl, rfl⟩;rw [hd, ap];have dn : ∀ I J : Int, (ep E r rm s.ph I J s.T false hv fv cv b lk).all AC.aV = true := fun I J => by simp only [jI, mr, cK]; rfl
 refine de (f := 98) Tryz.func98 rfl (db rfl) (by exact ed rfl) ?_;(refine aZ ?_);refine j7 46 (S5 E r rm s hv fv cv b S lk) (s.ch.length - s.I) (dF b S hv fv cv s.hot [] s.ch) _ [(1000, ep E r rm s.ph s.I s.J s.T false hv fv cv b lk)] ⟨s.I, s.J, bh, rfl, rfl, ki, rfl, rfl, rfl⟩ (bt.refl _) rfl ⟨rfl, rfl, trivial⟩ ⟨rfl, trivial⟩ ?_ ?_
 ·cases lk <;> first | rfl | cases cK
 rintro n R aL bj ⟨I, J, WV, rfl, GC, WX, rfl, rfl, rfl⟩ c3;clear c3;obtain ⟨V, D, g1⟩ : ∃ V D, s.ch[I]? = some (V, D) := ⟨_, _, bQ WV⟩;obtain ⟨hG, gH⟩ := aj.2 _ (c5 g1);have hlen := aj.1;simp only at hG gH;obtain ⟨mz, si⟩ := A9 (ii := (I : Int)) rfl g1;have yU := aeO (s := s) (J := J) g1;have q0 : (0 : Int) ≤ (I : Int) := by omega
 have q1 : (I : Int) < (s.ch.length : Int) := by omega
 have q2 : 0 < s.ch.length := by omega
 by_cases ae : J + 1 < V.length
 ·have iM : ¬ (J : Int) ≥ (D.length : Int) := by omega
  rw [if_pos ae] at yU;(repeat first | (with_reducible apply dj (id := 1) [0,1,2,3,4,5,6,7,8,9,10,11,12,13,14,15,16]); kernel_rfl; kernel_rfl; rfl | refine cF ?_ | (with_reducible apply jd 3); (iterate 4 rfl); (omega); (assumption); rfl; kernel_rfl; rfl | (with_reducible apply yM 3); (iterate 3 rfl); (assumption); kernel_rfl; rfl | (with_reducible apply yN 3); (iterate 3 rfl); (assumption); assumption; rfl; kernel_rfl; rfl)
  ((refine eH rfl aK rfl (bt.refl _) (dn _ _) rfl eX ?_))
  refine ⟨_, rfl, rfl, hv, fv, cv, b, S, lk, ?_⟩;rw [GC, yU];exact ⟨hS, cK, fI, by rw [hd], by rw [ap]⟩
 ·have iM : (J : Int) ≥ (D.length : Int) := by omega
  rw [if_neg ae] at yU
  by_cases hl : I + 1 = s.ch.length
  ·have e0 : (I : Int) + 1 = (s.ch.length : Int) := by omega
   have eg := ZF (E := E) (r := r) (rm := rm) (s := { s with I := I + 1, J := 0 }) hd ap aj;have Yv := aeP (s := { s with I := I + 1, J := 0 }) (by show s.ch.length ≤ I + 1; omega);rw [← Yv] at eg;(repeat first | (with_reducible apply dj (id := 1) [0,1,2,3,4,5,6,7,8,9,10,11,12,13,14,15,16]); kernel_rfl; kernel_rfl; rfl | (with_reducible apply dj (id := 3) [0,1,2,3,4,5,6,7,8,9]); kernel_rfl; kernel_rfl; rfl | refine cF ?_ | (with_reducible apply mP 3); (iterate 4 rfl); kernel_rfl; rfl | (with_reducible apply jd 3); (iterate 4 rfl); (omega); (assumption); rfl; kernel_rfl; rfl | (with_reducible apply yM 3); (iterate 3 rfl); (assumption); kernel_rfl; rfl | (with_reducible apply yN 3); (iterate 3 rfl); (assumption); assumption; rfl; kernel_rfl; rfl);refine hY rfl rfl rfl rfl rfl rfl rfl rfl eg ⟨hv, fv, cv, b, S, lk, hS, cK, fI, by rw [hd]; rfl, by rw [ap]⟩ (fun aq aw b0 => ?_);(refine aZ ?_);obtain ⟨bP, cX, cS, bK, c7, gA, fA, gI, im, rfl, rfl⟩ := id b0
   ((refine eH rfl aK rfl (bt.refl _) b0.closed rfl eX ?_))
   refine ⟨_, rfl, rfl, ?_⟩;rw [GC, yU];exact b0
  ·have e0 : ¬ (I : Int) + 1 = (s.ch.length : Int) := by omega
   (repeat first | (with_reducible apply dj (id := 1) [0,1,2,3,4,5,6,7,8,9,10,11,12,13,14,15,16]); kernel_rfl; kernel_rfl; rfl | (with_reducible apply dj (id := 3) [0,1,2,3,4,5,6,7,8,9]); kernel_rfl; kernel_rfl; rfl | refine cF ?_ | (with_reducible apply mP 3); (iterate 4 rfl); kernel_rfl; rfl | (with_reducible apply jd 3); (iterate 4 rfl); (omega); (assumption); rfl; kernel_rfl; rfl | (with_reducible apply yM 3); (iterate 3 rfl); (assumption); kernel_rfl; rfl | (with_reducible apply yN 3); (iterate 3 rfl); (assumption); assumption; rfl; kernel_rfl; rfl);refine ⟨s.ch.length - (I + 1), dF b S hv fv cv s.hot [] s.ch, _, [(1000, ep E r rm s.ph (I + 1 : Nat) (0 : Nat) s.T false hv fv cv b lk)], by omega, ⟨I + 1, 0, by omega, rfl, by rw [GC, yU], by omega, rfl, rfl, rfl⟩, bt.refl _, rfl, ⟨rfl, rfl, trivial⟩, ⟨rfl, trivial⟩, ?_⟩;cases lk <;> first | rfl | cases cK
end
section
variable {P : Program} {bo : eP} {bG A : Nat → Prop} {R : aG} {s : az} {a : Act} {w : World} {ad : Nat → Nat} {c : Code} {Q : Exit → aG → az → Prop}
theorem eo.adW {bS : Nat → Nat} (fr : ∀ i j, bS i = bS j → i = j) (h : eo bo bG R s a w A ad) : eo bo bG (fun i => R (bS i)) s a w A ad :=
 ⟨h.up, h.sub, h.rel, h.ov, h.below, fun i r hi => h.rows (bS i) r hi, fun i j r q hi ae fg g ao => h.apart (bS i) (bS j) r q hi ae (fun e => fg (fr i j e)) g ao, fun i r g hi ao => h.hot (bS i) r g hi ao, h.jS⟩
theorem aeJ (i j : Nat) (h : e4 P c Q (fun x => R (swp i j x)) s) : e4 P c Q R s := fun ok bo bG a w ⟨A, ad, ar⟩ => h ok bo bG a w ⟨A, ad, ar.adW fun x y e => by rw [← mv i j x, e, mv]⟩
end
theorem It {A B ds : List AC} {off : Nat} (h : A.length = off) : eu (A ++ B) off ds = A ++ ds ++ B.drop ds.length := by
 unfold eu;rw [← h, List.take_left, List.drop_append, tA (by omega), Nat.add_sub_cancel_left]; simp
def Jm (E : List (Int × bU)) (r rm : Nat) (s : bp.aS an) (cs : List AC) (R : aG) : Prop := ∃ (hv fv cv : Value) (b : Nat) (S : eQ) (lk : AC), su rm s.hot (dO b) S ∧ lk.aV = true ∧ cs = ep E r rm s.ph s.I s.J s.T s.dirty hv fv cv b lk ∧ R = dF b S hv fv cv s.hot s.fnd s.ch
def Jk (E : List (Int × bU)) (r rm : Nat) (f : FuncId) (args : List ah) (s : bp.aS an) (v : ah) (s' : bp.aS an) : Prop :=
 ∀ cs R, Jm E r rm s cs R → cY ag f (qU :: args) (cE 1000 cs) R (nY 1000 fun bR aq aw => bR = v ∧ dm E r rm s' aq aw)
section
variable {P : Program} {R : aG} {s : az} {ops : Array Oper} {dr : Option (List Nat)} {ty : Nat} {pos : String} {after : Array Edge} {guard : Option (Nat × Bool)} {K : aG → az → Prop} {rest : List Oper}
theorem MT {E : List (Int × bU)} {r rm : Nat} {dB s1 : bp.aS an} {v : ah} {dst : Option Nat} {f : FuncId} {g : Operand} {aL : Array TypeId} {l : List Operand} {args : List ah} {cs : List AC} [D0 : Enters ag f] (hw : want ops ⟨dst, .call ⟨.value g, l.toArray, aL⟩, ty, pos, after, guard⟩ s = some true) (hm : dL dr ⟨dst, .call ⟨.value g, l.toArray, aL⟩, ty, pos, after, guard⟩ = true)
  (ao : s.look g = some (aM (.func (.func f) #[] #[]))) (aH : l.map s.look = (qU :: args).map some) (af : s.mem 1000 = some cs) (hg : oN dr 1000 = true) (dW : args.all ah.aV = true) (hd : kC dst s.n = true) (hp : Jk E r rm f args dB v s1) (bh : Jm E r rm dB cs R)
  (h : ∀ aq aw, dm E r rm s1 aq aw → ct ag ops dr K rest aw ((s.dT 1000 aq).put dst v)) : ct ag ops dr K (⟨dst, .call ⟨.value g, l.toArray, aL⟩, ty, pos, after, guard⟩ :: rest) R s := by
 have aj : cs.all AC.aV = true := by
  obtain ⟨hv, fv, cv, b, S, lk, _, cK, rfl, _⟩ := bh;simp only [jI, mr, cK]; rfl
 refine B6 1000 hw hm ao aH (hp cs R bh) af hg (bt.refl _) aj dW hd ?_;rintro _ aq aw ⟨rfl, aJ⟩
 have : bJ aw R = aw := by
  obtain ⟨_, _, _, _, _, _, _, _, _, rfl⟩ := bh;obtain ⟨_, _, _, _, _, _, _, _, _, _, rfl⟩ := aJ;exact QA
 rw [this];exact h aq aw aJ
end
section
variable {E : List (Int × bU)} {r rm : Nat}
theorem NC {s : bp.aS an} (hd : s.dirty = false) (ap : s.fnd = []) (aj : kc s.ch) (aA : 0 < s.ch.length) : Jk E r rm 130 [] s ln (lR (e7 s 2 0 0)) := by
 have eg := NB (E := E) (r := r) (rm := rm) (s := e7 s 2 0 0) hd rfl aj aA (dA _) rfl;obtain ⟨ph, I, J, T, dirty, hot, fnd, ch⟩ := s;obtain rfl : dirty = false := hd;obtain rfl : fnd = [] := ap;rintro cs R ⟨hv, fv, cv, b, S, lk, hS, cK, rfl, rfl⟩;have dn : (ep E r rm ph I J T false hv fv cv b lk).all AC.aV = true := by simp only [jI, mr, cK]; rfl
 have aU := Cl (E := E) (k := r) (rm := rm) (ph := ph) (I := I) (J := J) (T := T) (dirty := false) (hv := hv) (fv := fv) (cv := cv) (b := b) cK 2 0;refine de (f := 130) Tryz.func130 rfl (db rfl) (by exact ed rfl) ?_;(refine aZ ?_);refine jV 1000 rfl rfl rfl rfl aU rfl rfl dn rfl rfl ?_;(refine aZ ?_);refine hY rfl rfl rfl rfl rfl rfl rfl rfl eg ⟨hv, fv, cv, b, S, lk, hS, cK, fun h => (by cases h), rfl, rfl⟩ (fun aq aw b0 => ?_);(refine aZ ?_);obtain ⟨bP, cX, cS, bK, c7, gA, fA, gI, im, rfl, rfl⟩ := id b0
 ((refine eH rfl aK rfl (bt.refl _) b0.closed rfl eX ?_))
 exact ⟨_, rfl, rfl, b0⟩
theorem Nz {s : bp.aS an} (ap : s.fnd = []) (aj : kc s.ch) (aA : 0 < s.ch.length) : fM E r rm 104 [] s ln (nf s) := by
 unfold nf
 by_cases hd : s.dirty = true
 ·rw [if_pos hd];have eg := NC (E := E) (r := r) (rm := rm) (s := { s with dirty := false }) rfl ap aj aA;obtain ⟨ph, I, J, T, dirty, hot, fnd, ch⟩ := s;obtain rfl : dirty = true := hd;obtain rfl : fnd = [] := ap;rintro cs R ⟨hv, fv, cv, b, S, lk, hS, cK, fI, rfl, rfl⟩;simp only at eg ⊢;refine de (f := 104) Tryz.func104 rfl (db rfl) (by exact ed rfl) ?_;(refine aZ ?_);refine MT rfl rfl rfl rfl rfl rfl rfl rfl eg ⟨hv, fv, cv, b, S, .c (.slice none 0 0), hS, rfl, rfl, rfl⟩ (fun aq aw b0 => ?_);(refine aZ ?_);obtain ⟨bP, cX, cS, bK, c7, gA, fA, gI, im, rfl, rfl⟩ := id b0
  ((refine eH rfl aK rfl (bt.refl _) b0.closed rfl eX ?_))
  exact ⟨_, rfl, rfl, b0⟩
 ·have hd : s.dirty = false := by cases h : s.dirty <;> simp_all
  rw [if_neg (by rw [hd]; decide)];exact NA hd ap
theorem aa3 (p q : an) : gN p q = (uX p q, uW p q) := by
 unfold gN uX uW; split <;> rfl
def SF (E : List (Int × bU)) (r rm : Nat) (s : bp.aS an) (hv fv cv v : Value) (b : Nat) (S : eQ) (lk : AC) (gO : List (List an × List Int)) (Z : List AC) (n : Nat) (R : aG) (aL : List (Nat × ah)) (bj : List (Nat × List AC)) : Prop :=
 ∃ (i : Nat) (ii : Int), i ≤ E.length ∧ n = E.length - i ∧ ii = i ∧ R = bA (dF b S hv fv cv s.hot [] s.ch) 4 ⟨34, 2, v, E.length, ew (gO.take i) ++ Z.drop (2 * i)⟩ ∧ aL = [(0, qU), (2, aM v), (11, aB E.length), (12, aB ii)] ∧ bj = [(1000, ep E r rm s.ph s.I s.J s.T false hv fv cv b lk)]
theorem Ny {s : bp.aS an} (al : r ≤ 28) (fp : gi (E.map Prod.snd) = true) (hl : E.length ≤ 300) (aA : 0 < E.length) (hd : s.dirty = false) (ap : s.fnd = []) : fM E r rm 95 [] s ln (ld (bu E r rm) s) := by
 rintro cs R ⟨hv, fv, cv, b, S, lk, hS, cK, fI, rfl, rfl⟩;rw [hd, ap];have dn : (ep E r rm s.ph s.I s.J s.T false hv fv cv b lk).all AC.aV = true := by simp only [jI, mr, cK]; rfl
 obtain ⟨gO, qp⟩ : ∃ gO, gO = (List.range (bu E r rm).n).map fun k => gN ((bu E r rm).P k) ((bu E r rm).Q k) := ⟨_, rfl⟩;have au : gO.length = E.length := by rw [qp]; simp [qI]
 have Xl : kc gO := by
  refine ⟨by omega, fun c aj => ?_⟩;rw [qp] at aj;obtain ⟨k, _, rfl⟩ := h9.1 aj;unfold gN; split
  ·exact ⟨rfl, Nat.le_add_left 1 1099⟩
  ·exact ⟨rfl, Nat.le_add_left 2 1098⟩
 have eg := NC (E := E) (r := r) (rm := rm) (s := { s with ch := gO }) hd ap Xl (by show 0 < gO.length; omega);rw [show lR (e7 ({ s with ch := gO } : bp.aS an) 2 0 0) = ld (bu E r rm) s by rw [qp]; rfl] at eg
 have gf : ∀ i o (a : bU), E[i]? = some (o, a) → gO[i]? = some (gN (lg r a.1) (lg r a.2)) := fun i o a h => by
  have hi := (bF.1 h).1;have e : (E.map Prod.snd).getD i l5 = a := by rw [fZ, ef, h]; rfl
  rw [qp, ef, List.getElem?_range (by simpa [qI] using hi)];show some (gN (lg r ((E.map Prod.snd).getD i l5).1) (lg r ((E.map Prod.snd).getD i l5).2)) = _;rw [e]
 have bX : ∀ i o (a : bU), E[i]? = some (o, a) → gj a.1 = true ∧ gj a.2 = true := fun i o a h => by
  have := qE fp i;rw [fZ, ef, h] at this;exact this
 have BG : (hA E.length 2 [.slice none 0 0, .slice none 0 0]).length = 2 * E.length := by unfold hA; simp; omega
 clear qp;refine de (f := 95) Tryz.func95 rfl (db rfl) (by exact ed rfl) ?_;(refine aZ ?_);refine yO (l := E.length) (c' := E.length) 4 rfl rfl rfl rfl (dl _) rfl rfl ?h2 (kL (by omega)) rfl (fun v hZ => ?_)
 case h2 => omega
 (refine aZ ?_);generalize hA E.length 2 [.slice none 0 0, .slice none 0 0] = Z at *;(repeat first | refine cF ?_ | (with_reducible apply mP 4); (iterate 4 rfl); kernel_rfl; rfl);refine j7 32 (SF E r rm s hv fv cv v b S lk gO Z) E.length (bA (dF b S hv fv cv s.hot [] s.ch) 4 ⟨34, 2, v, E.length, Z⟩) _ [(1000, ep E r rm s.ph s.I s.J s.T false hv fv cv b lk)] ⟨0, 0, dA _, rfl, rfl, rfl, rfl, rfl⟩ (bt.refl _) rfl ⟨rfl, rfl, rfl, rfl, trivial⟩ ⟨rfl, trivial⟩ ?_ ?_
 ·cases lk <;> first | rfl | cases cK
 rintro n R aL bj ⟨i, ii, hi, rfl, hc, rfl, rfl, rfl⟩ c3;clear c3
 have ax : (ew (gO.take i)).length = 2 * i := by
  have := Br (f := o8) (z := 2) (fun _ => rfl) (gO.take i);rw [dS] at this;unfold ew; rw [this]; omega
 by_cases ak : i < E.length
 ·have q2 : ii < (E.length : Int) := by omega
  have bE : 0 ≤ ii := by omega
  have c4 : 0 < E.length := by omega
  obtain ⟨o, ⟨p1, p2⟩, ⟨cr, cm⟩, g1⟩ : ∃ o p q, E[i]? = some (o, p, q) := ⟨_, _, _, bQ ak⟩;obtain ⟨dY, et⟩ := bX _ _ _ g1;have g2 := gf _ _ _ g1;have aU := G3 (E := E) (k := r) (rm := rm) (ph := s.ph) (I := s.I) (J := s.J) (T := s.T) (dirty := false) (hv := hv) (fv := fv) (cv := cv) (b := b) al rfl cK (by omega) g1 dY et;rw [← hc] at aU;have bD := Zo (cn p1 r) (cn p2 r) (cn cr r) (cn cm r);have aN : gN (lg r (p1, p2)) (lg r (cr, cm)) = (uX (cn p1 r, cn p2 r) (cn cr r, cn cm r), uW (cn p1 r, cn p2 r) (cn cr r, cn cm r)) := aa3 _ _;rw [aN] at g2;clear aN dY et g1;generalize cn p1 r = a1 at *;generalize cn p2 r = a2 at *;generalize cn cr r = a3 at *;generalize cn cm r = a4 at *;generalize uX (a1, a2) (a3, a4) = V at *;generalize uW (a1, a2) (a3, a4) = D at *;have aF : ii.toNat * 2 = 2 * i := by omega
  have Gr : ii.toNat * 2 + 2 ≤ (ew (gO.take i) ++ Z.drop (2 * i)).length := by rw [cx, ax, hN, BG]; omega
  have b5 : eu (ew (gO.take i) ++ Z.drop (2 * i)) (ii.toNat * 2) [.p (cl 2 V.length (bL V)), .p (cl 1 D.length (cu D))] = ew (gO.take (i + 1)) ++ Z.drop (2 * (i + 1)) := by
   rw [It (by rw [ax, aF]), pL];congr 1;have a8 : i < gO.length := by omega
   rw [nO a8, show gO[i] = (V, D) from lP ((bQ a8).symm.trans g2)];simp [ew, o8]
  (refine aZ ?_);refine jV 1000 rfl rfl rfl rfl aU rfl rfl dn rfl rfl ?_;(repeat first | refine cF ?_ | refine ia ?_ | (with_reducible apply jd 4); (iterate 4 rfl); (omega); (assumption); rfl; kernel_rfl; rfl);refine yR 4 rfl rfl rfl rfl c4 rfl rfl Gr rfl ?_;(refine aZ ?_);refine ⟨E.length - (i + 1), bA (dF b S hv fv cv s.hot [] s.ch) 4 ⟨34, 2, v, E.length, ew (gO.take (i + 1)) ++ Z.drop (2 * (i + 1))⟩, _, [(1000, ep E r rm s.ph s.I s.J s.T false hv fv cv b lk)], by omega, ⟨i + 1, ii + 1, by omega, rfl, by omega, rfl, rfl, rfl⟩, fun k q af => ?_, rfl, ⟨rfl, rfl, rfl, rfl, trivial⟩, ⟨rfl, trivial⟩, ?_⟩
  ·rw [← b5] at af
   by_cases hT : k = 4
   ·subst hT; exact af
   ·rw [b3 _ _ hT] at af ⊢;rw [b3 _ _ hT]; exact af
  ·cases lk <;> first | rfl | cases cK
 ·have q2 : ¬ ii < (E.length : Int) := by omega
  have cW : gO.take i = gO := hq (by omega);have aF : Z.drop (2 * i) = [] := List.drop_eq_nil_of_le (by omega);rw [cW, aF, mn];refine aeJ 3 4 ?_;refine Du (dF b S hv fv v s.hot [] gO) (fun k q af => ?_) ?_
  ·match k with
   | 0 => exact af
   | 1 => exact af
   | 2 => exact af
   | 3 => rw [← au]; exact af
   | k + 4 => cases af
  (refine aZ ?_);refine MT rfl rfl rfl rfl rfl rfl rfl rfl eg ⟨hv, fv, v, b, S, lk, hS, cK, by rw [hd], by rw [ap]⟩ (fun aq aw b0 => ?_);(refine aZ ?_);obtain ⟨bP, cX, cS, bK, c7, gA, fA, gI, im, rfl, rfl⟩ := id b0
  ((refine eH rfl aK rfl (bt.refl _) b0.closed rfl eX ?_))
  exact ⟨_, rfl, rfl, b0⟩
end
section
variable {E : List (Int × bU)} {r rm : Nat}
theorem A3 {n : Nat} (h : n ≠ 5) : Nat.beq n 5 = false := by
 cases aJ : Nat.beq n 5 with
 | false => rfl
 | true => exact absurd (gl aJ) h
theorem BO {o : cO an} {s : bp.aS an} {q : an} (h : s.fnd = []) : (dE o s q).fnd = [] := by
 unfold dE; split
 ·exact h
 ·split
  ·exact h
  ·rfl
theorem BN {o : cO an} {s : bp.aS an} {q : an} : (dE o s q).dirty = s.dirty ∧ (dE o s q).ch = s.ch ∧ (dE o s q).hot.length ≤ s.hot.length + 1 := by
 unfold dE; split
 ·exact ⟨rfl, rfl, Nat.le_succ _⟩
 ·split
  ·exact ⟨rfl, rfl, by simp⟩
  ·exact ⟨rfl, rfl, Nat.le_succ _⟩
theorem BP {o : cO an} {s : bp.aS an} {q : an} (h : (dE o s q).ph ≠ 5) : (dE o s q).ph = s.ph ∧ (dE o s q).I = s.I ∧ (dE o s q).J = s.J ∧ (dE o s q).T = s.T := by
 revert h
 unfold dE; split
 ·exact fun _ => ⟨rfl, rfl, rfl, rfl⟩
 ·split
  ·exact fun _ => ⟨rfl, rfl, rfl, rfl⟩
  ·exact fun h => absurd rfl h
theorem ZG {s : bp.aS an} (al : r ≤ 28) (fp : gi (E.map Prod.snd) = true) (hl : E.length ≤ 300) (aA : 0 < E.length) (hd : s.dirty = false) (ap : s.fnd = []) : fM E r rm 91 [] s ln (if E.length < 2 then ld (bu E r rm) s else e7 s 1 0 1) := by
 have eg := Ny (E := E) (r := r) (rm := rm) (s := e7 s 1 0 1) al fp hl aA hd rfl;rw [show ld (bu E r rm) (e7 s 1 0 1) = ld (bu E r rm) s from rfl] at eg;obtain ⟨ph, I, J, T, dirty, hot, fnd, ch⟩ := s;obtain rfl : dirty = false := hd;obtain rfl : fnd = [] := ap;rintro cs R ⟨hv, fv, cv, b, S, lk, hS, cK, fI, rfl, rfl⟩;have dn : (ep E r rm ph I J T false hv fv cv b lk).all AC.aV = true := by simp only [jI, mr, cK]; rfl
 have W9 : (ep E r rm 1 0 1 0 false hv fv cv b lk).all AC.aV = true := by simp only [jI, mr, cK]; rfl
 have aU := Cl (E := E) (k := r) (rm := rm) (ph := ph) (I := I) (J := J) (T := T) (dirty := false) (hv := hv) (fv := fv) (cv := cv) (b := b) cK 1 1
 by_cases h2 : E.length < 2
 ·rw [if_pos h2];have vX : (1 : Int) ≥ (E.length : Int) := by omega
  refine de (f := 91) Tryz.func91 rfl (db rfl) (by exact ed rfl) ?_;(refine aZ ?_);refine jV 1000 rfl rfl rfl rfl aU rfl rfl dn rfl rfl ?_;(repeat first | (with_reducible apply dj (id := 1) [0,1,2,3,4,5,6,7,8,9,10]); kernel_rfl; kernel_rfl; rfl | refine cF ?_);refine hY rfl rfl rfl rfl rfl rfl rfl rfl eg ⟨hv, fv, cv, b, S, lk, hS, cK, fun h => (by cases h), rfl, rfl⟩ (fun aq aw b0 => ?_);(refine aZ ?_);obtain ⟨bP, cX, cS, bK, c7, gA, fA, gI, im, rfl, rfl⟩ := id b0
  ((refine eH rfl aK rfl (bt.refl _) b0.closed rfl eX ?_))
  exact ⟨_, rfl, rfl, b0⟩
 ·rw [if_neg h2];have vX : ¬ (1 : Int) ≥ (E.length : Int) := by omega
  refine de (f := 91) Tryz.func91 rfl (db rfl) (by exact ed rfl) ?_;(refine aZ ?_);refine jV 1000 rfl rfl rfl rfl aU rfl rfl dn rfl rfl ?_;(repeat first | (with_reducible apply dj (id := 1) [0,1,2,3,4,5,6,7,8,9,10]); kernel_rfl; kernel_rfl; rfl | refine cF ?_)
  ((refine eH rfl aK rfl (bt.refl _) W9 rfl eX ?_))
  exact ⟨_, rfl, rfl, hv, fv, cv, b, S, lk, hS, cK, fun h => (by cases h), rfl, rfl⟩
theorem E7 {i : Nat} {o : Int} {a : bU} (h : E[i]? = some (o, a)) : (E.map Prod.snd).getD i l5 = a := by rw [fZ, ef, h]; rfl
theorem ZB {s : bp.aS an} (al : r ≤ 28) (fp : gi (E.map Prod.snd) = true) (hl : E.length ≤ 300) (bh : s.I < E.length) (hd : s.dirty = false) (ap : s.fnd = []) (aR : s.hot.length ≤ 1024) (gL : s.ph = 0) : fM E r rm 54 [] s ln (sJ (bu E r rm) s) := by
 obtain ⟨o, ⟨p1, p2⟩, ⟨cr, cm⟩, g1⟩ : ∃ o p q, E[s.I]? = some (o, p, q) := ⟨_, _, _, bQ bh⟩;have ih := E7 g1;have au := qE fp s.I;rw [ih] at au;have VO : (bu E r rm).P s.I = (cn p1 r, cn p2 r) := by show lg r ((E.map Prod.snd).getD s.I l5).1 = _; rw [ih]; rfl
 have VP : (bu E r rm).Q s.I = (cn cr r, cn cm r) := by show lg r ((E.map Prod.snd).getD s.I l5).2 = _; rw [ih]; rfl
 have Bi : (bu E r rm).n = E.length := mo ..;have H1 := G4 (E := E) (r := r) (rm := rm) (s := s) (x := cn p1 r) (y := cn p2 r) (by omega) ap (by omega);unfold sJ;rw [VO, VP, Bi];have rv := BN (o := bu E r rm) (s := s) (q := (cn p1 r, cn p2 r));have wj := BO (o := bu E r rm) (q := (cn p1 r, cn p2 r)) ap;have uF := BP (o := bu E r rm) (s := s) (q := (cn p1 r, cn p2 r));generalize s6 : dE (bu E r rm) s (cn p1 r, cn p2 r) = s1 at *
 by_cases q1 : s1.ph = 5
 ·rw [if_pos q1];rw [q1] at H1;rintro cs R jt;obtain ⟨hv, fv, cv, b, S, lk, hS, cK, fI, rfl, rfl⟩ := id jt;have dn := jt.closed;have aU := G3 (E := E) (k := r) (rm := rm) (ph := s.ph) (I := s.I) (J := s.J) (T := s.T) (dirty := s.dirty) (hv := hv) (fv := fv) (cv := cv) (b := b) al rfl cK (by omega) g1 au.1 au.2;clear s6;generalize cn p1 r = a1 at *;generalize cn p2 r = a2 at *;generalize cn cr r = a3 at *;generalize cn cm r = a4 at *;refine de (f := 54) Tryz.func54 rfl (db rfl) (by exact ed rfl) ?_;(refine aZ ?_);refine jV 1000 rfl rfl rfl rfl aU rfl rfl dn rfl rfl ?_;(refine aZ ?_);refine hY rfl rfl rfl rfl rfl rfl rfl rfl H1 jt (fun aq aw b0 => ?_);(refine aZ ?_);obtain ⟨bP, cX, cS, bK, c7, gA, fA, gI, im, rfl, rfl⟩ := id b0
  ((refine eH rfl aK rfl (bt.refl _) b0.closed rfl eX ?_))
  exact ⟨_, rfl, rfl, b0⟩
 ·rw [if_neg q1];obtain ⟨m1, m2, m3, m4⟩ := uF q1;rw [A3 q1] at H1;have cQ := G4 (E := E) (r := r) (rm := rm) (s := s1) (x := cn cr r) (y := cn cm r) (by omega) wj q1;have wh := BN (o := bu E r rm) (s := s1) (q := (cn cr r, cn cm r));have XA := BO (o := bu E r rm) (q := (cn cr r, cn cm r)) wj;have Gm := BP (o := bu E r rm) (s := s1) (q := (cn cr r, cn cm r));generalize Yo : dE (bu E r rm) s1 (cn cr r, cn cm r) = s2 at *;have dV := ZG (E := E) (r := r) (rm := rm) (s := { s2 with I := s2.I + 1 }) al fp hl (by omega) (by show s2.dirty = false; rw [wh.1, rv.1]; exact hd) XA;rw [show ld (bu E r rm) { s2 with I := s2.I + 1 } = ld (bu E r rm) s2 from rfl, show e7 ({ s2 with I := s2.I + 1 } : bp.aS an) 1 0 1 = e7 s2 1 0 1 from rfl] at dV;rintro cs R jt;obtain ⟨hv, fv, cv, b, S, lk, hS, cK, fI, rfl, rfl⟩ := id jt;have dn := jt.closed;have aU := G3 (E := E) (k := r) (rm := rm) (ph := s.ph) (I := s.I) (J := s.J) (T := s.T) (dirty := s.dirty) (hv := hv) (fv := fv) (cv := cv) (b := b) al rfl cK (by omega) g1 au.1 au.2;clear s6 Yo
  by_cases q2 : s2.ph = 5
  ·rw [if_pos q2];rw [q2] at cQ;clear dV;generalize cn p1 r = a1 at *;generalize cn p2 r = a2 at *;generalize cn cr r = a3 at *;generalize cn cm r = a4 at *;refine de (f := 54) Tryz.func54 rfl (db rfl) (by exact ed rfl) ?_;(refine aZ ?_);refine jV 1000 rfl rfl rfl rfl aU rfl rfl dn rfl rfl ?_;(refine aZ ?_);refine hY rfl rfl rfl rfl rfl rfl rfl rfl H1 jt (fun aq aw b0 => ?_);(refine aZ ?_);refine hY rfl rfl rfl rfl rfl rfl rfl rfl cQ b0 (fun aq aw b0 => ?_);(refine aZ ?_);obtain ⟨bP, cX, cS, bK, c7, gA, fA, gI, im, rfl, rfl⟩ := id b0
   ((refine eH rfl aK rfl (bt.refl _) b0.closed rfl eX ?_))
   exact ⟨_, rfl, rfl, b0⟩
  ·rw [if_neg q2];rw [A3 q2] at cQ;obtain ⟨m5, m6, m7, m8⟩ := Gm q2;have VN : s.I = s2.I := by omega
   generalize cn p1 r = a1 at *;generalize cn p2 r = a2 at *;generalize cn cr r = a3 at *;generalize cn cm r = a4 at *
   by_cases bE : s.I + 1 < E.length
   ·rw [if_pos bE, show ({ s2 with I := s.I + 1 } : bp.aS an) = { s2 with I := s2.I + 1 } by rw [VN]];have adF : ¬ (s2.I : Int) + 1 = (E.length : Int) := by omega
    refine de (f := 54) Tryz.func54 rfl (db rfl) (by exact ed rfl) ?_;(refine aZ ?_);refine jV 1000 rfl rfl rfl rfl aU rfl rfl dn rfl rfl ?_;(refine aZ ?_);refine hY rfl rfl rfl rfl rfl rfl rfl rfl H1 jt (fun aq aw b0 => ?_);(refine aZ ?_);refine hY rfl rfl rfl rfl rfl rfl rfl rfl cQ b0 (fun aq aw FH => ?_);clear b0;obtain ⟨bP, cX, cS, bK, c7, gA, fA, gI, im, rfl, rfl⟩ := id FH;have fq : dm E r rm { s2 with I := s2.I + 1 } (ep E r rm s2.ph ((s2.I : Int) + 1) s2.J s2.T s2.dirty bP cX cS bK gA) (dF bK c7 bP cX cS s2.hot s2.fnd s2.ch) := ⟨bP, cX, cS, bK, c7, gA, fA, gI, im, rfl, rfl⟩;(repeat first | (with_reducible apply dj (id := 3) [0,1,2,3,4,5,6,7,8,9,10]); kernel_rfl; kernel_rfl; rfl | refine cF ?_)
    ((refine eH rfl aK rfl (bt.refl _) fq.closed rfl eX ?_))
    exact ⟨_, rfl, rfl, fq⟩
   ·rw [if_neg bE];have adF : (s2.I : Int) + 1 = (E.length : Int) := by omega
    refine de (f := 54) Tryz.func54 rfl (db rfl) (by exact ed rfl) ?_;(refine aZ ?_);refine jV 1000 rfl rfl rfl rfl aU rfl rfl dn rfl rfl ?_;(refine aZ ?_);refine hY rfl rfl rfl rfl rfl rfl rfl rfl H1 jt (fun aq aw b0 => ?_);(refine aZ ?_);refine hY rfl rfl rfl rfl rfl rfl rfl rfl cQ b0 (fun aq aw FH => ?_);clear b0;obtain ⟨bP, cX, cS, bK, c7, gA, fA, gI, im, rfl, rfl⟩ := id FH;have fq : dm E r rm { s2 with I := s2.I + 1 } (ep E r rm s2.ph ((s2.I : Int) + 1) s2.J s2.T s2.dirty bP cX cS bK gA) (dF bK c7 bP cX cS s2.hot s2.fnd s2.ch) := ⟨bP, cX, cS, bK, c7, gA, fA, gI, im, rfl, rfl⟩;(repeat first | (with_reducible apply dj (id := 3) [0,1,2,3,4,5,6,7,8,9,10]); kernel_rfl; kernel_rfl; rfl | refine cF ?_);refine hY rfl rfl rfl rfl rfl rfl rfl rfl dV fq (fun aq aw k3 => ?_);(refine aZ ?_);obtain ⟨wF, Bt, Bc, dz, xG, Cs, BF, BZ, BX, rfl, rfl⟩ := id k3
    ((refine eH rfl aK rfl (bt.refl _) k3.closed rfl eX ?_))
    exact ⟨_, rfl, rfl, k3⟩
end
section
variable {E : List (Int × bU)} {r rm : Nat}
theorem Xv {o : cO an} {s : bp.aS an} {q : Option an} (h : s.fnd = []) : (kk o s q).fnd = [] := by
 cases q with
 | none => exact h
 | some x => exact BO h
theorem Xx {o : cO an} {s : bp.aS an} {q : Option an} : (kk o s q).dirty = s.dirty ∧ (kk o s q).ch = s.ch ∧ (kk o s q).hot.length ≤ s.hot.length + 1 := by
 cases q with
 | none => exact ⟨rfl, rfl, Nat.le_succ _⟩
 | some x => exact BN
theorem Xw {o : cO an} {s : bp.aS an} {q : Option an} (h : (kk o s q).ph ≠ 5) : (kk o s q).ph = s.ph ∧ (kk o s q).I = s.I ∧ (kk o s q).J = s.J ∧ (kk o s q).T = s.T := by
 cases q with
 | none => exact ⟨rfl, rfl, rfl, rfl⟩
 | some x => exact BP h
theorem tg {p : an} (h : gj p = true) : b7 p.1 p.2 = true := by
 have h := rW.1 h;unfold b7; simp only [dx, ca]; omega
theorem Oh {a b : bU} (h1 : b7 a.1.1 a.1.2 = true) (h2 : b7 a.2.1 a.2.2 = true) (h3 : b7 b.1.1 b.1.2 = true) (aE : b7 b.2.1 b.2.2 = true) : At (gM a b) := by
 rw [← Hb h1 h2 h3 aE]; exact aaj ..
theorem OP {n I J : Nat} (h : J < n) : ((b6 n I J).1 : Int) = (if (J : Int) + 1 = (n : Int) then (I : Int) + 1 else I) ∧ ((b6 n I J).2 : Int) = (if (J : Int) + 1 = (n : Int) then (I : Int) + 2 else (J : Int) + 1) ∧ (decide ((if (J : Int) + 1 = (n : Int) then (I : Int) + 2 else (J : Int) + 1) < (n : Int)) = decide ((b6 n I J).2 < n)) := by
 unfold b6
 by_cases h1 : n ≤ J + 1
 ·have : (J : Int) + 1 = (n : Int) := by omega
  rw [if_pos h1, if_pos this, if_pos this];refine ⟨by simp, by simp, ?_⟩;rw [decide_eq_decide]; simp only; omega
 ·have : ¬ (J : Int) + 1 = (n : Int) := by omega
  rw [if_neg h1, if_neg this, if_neg this];refine ⟨by simp, by simp, ?_⟩;rw [decide_eq_decide]; simp only; omega
theorem ZD {s : bp.aS an} (al : r ≤ 28) (fp : gi (E.map Prod.snd) = true) (hl : E.length ≤ 300) (pi : s.I < s.J) (ki : s.J < E.length) (hd : s.dirty = false) (ap : s.fnd = []) (aR : s.hot.length ≤ 1024) (gL : s.ph = 1) : fM E r rm 55 [] s ln (ts (bu E r rm) s) := by
 obtain ⟨o, ⟨p1, p2⟩, ⟨cr, cm⟩, g1⟩ : ∃ o p q, E[s.I]? = some (o, p, q) := ⟨_, _, _, bQ (by omega)⟩;obtain ⟨eM, ⟨v1, v2⟩, ⟨w1, w2⟩, g2⟩ : ∃ o p q, E[s.J]? = some (o, p, q) := ⟨_, _, _, bQ ki⟩;have ih := E7 g1;have ly := E7 g2;have au := qE fp s.I;have hm := qE fp s.J;rw [ih] at au;rw [ly] at hm;have Bi : (bu E r rm).n = E.length := mo ..
 have Lk : (bu E r rm).tu s.I s.J = lL r (gM ((p1, p2), (cr, cm)) ((v1, v2), (w1, w2))) := by
  show zw r ((E.map Prod.snd).getD s.I l5) ((E.map Prod.snd).getD s.J l5) = _;rw [ih, ly]; rfl
 have aU := HI (a1 := p1) (a2 := p2) (b1 := cr) (b2 := cm) (c1 := v1) (c2 := v2) (d1 := w1) (d2 := w2);rw [show qA p1 p2 cr cm v1 v2 w1 w2 = gM ((p1, p2), (cr, cm)) ((v1, v2), (w1, w2)) from Hb (a := ((p1, p2), (cr, cm))) (b := ((v1, v2), (w1, w2))) (tg au.1) (tg au.2) (tg hm.1) (tg hm.2)] at aU;have H1 := Nx (E := E) (r := r) (rm := rm) (s := s) al (Oh (a := ((p1, p2), (cr, cm))) (b := ((v1, v2), (w1, w2))) (tg au.1) (tg au.2) (tg hm.1) (tg hm.2)) (fun af => P1 al (a := ((p1, p2), (cr, cm))) (b := ((v1, v2), (w1, w2))) au.1 au.2 (by unfold zw; rw [if_pos af])) (by omega) ap (by omega);unfold ts;rw [Lk, Bi];have rv := Xx (o := bu E r rm) (s := s) (q := lL r (gM ((p1, p2), (cr, cm)) ((v1, v2), (w1, w2))));have wj := Xv (o := bu E r rm) (q := lL r (gM ((p1, p2), (cr, cm)) ((v1, v2), (w1, w2)))) ap;have uF := Xw (o := bu E r rm) (s := s) (q := lL r (gM ((p1, p2), (cr, cm)) ((v1, v2), (w1, w2))));generalize kk (bu E r rm) s (lL r (gM ((p1, p2), (cr, cm)) ((v1, v2), (w1, w2)))) = s1 at *;generalize gM ((p1, p2), (cr, cm)) ((v1, v2), (w1, w2)) = M at *;have mz := vP (ii := (s.I : Int)) rfl g1;have si := vP (ii := (s.J : Int)) rfl g2;have i0 : (0 : Int) ≤ (s.I : Int) := by omega
 have i1 : (s.I : Int) < (E.length : Int) := by omega
 have Ze : (0 : Int) ≤ (s.J : Int) := by omega
 have qu : (s.J : Int) < (E.length : Int) := by omega
 rintro cs R jt;obtain ⟨hv, fv, cv, b, S, lk, hS, cK, fI, rfl, rfl⟩ := id jt;clear Lk ih ly au hm Bi
 by_cases q1 : s1.ph = 5
 ·rw [if_pos q1];rw [q1] at H1;refine de (f := 55) Tryz.func55 rfl (db rfl) (by exact ed rfl) ?_;(repeat first | (with_reducible apply dj (id := 0) [22,23,0,1,2,3,4,5,6,7,8,9,10,11,12,13,14,15,16,17,18,19,20,21,24,25]); kernel_rfl; kernel_rfl; rfl | refine cF ?_ | refine ia ?_);refine hY rfl rfl rfl rfl rfl rfl rfl rfl H1 jt (fun aq aw b0 => ?_);(refine aZ ?_);obtain ⟨bP, cX, cS, bK, c7, gA, fA, gI, im, rfl, rfl⟩ := id b0
  ((refine eH rfl aK rfl (bt.refl _) b0.closed rfl eX ?_))
  exact ⟨_, rfl, rfl, b0⟩
 ·rw [if_neg q1];rw [A3 q1] at H1;obtain ⟨m1, m2, m3, m4⟩ := uF q1;have jw := OP (n := E.length) (I := s1.I) (J := s1.J) (by omega);rw [← m2, ← m3];have dV := Ny (E := E) (r := r) (rm := rm) (s := { s1 with I := (b6 E.length s1.I s1.J).1, J := (b6 E.length s1.I s1.J).2 }) al fp hl (by omega) (by show s1.dirty = false; rw [rv.1]; exact hd) wj;rw [show ld (bu E r rm) { s1 with I := (b6 E.length s1.I s1.J).1, J := (b6 E.length s1.I s1.J).2 } = ld (bu E r rm) s1 from rfl] at dV
  by_cases q2 : (b6 E.length s1.I s1.J).2 < E.length
  ·rw [if_pos q2];have gJ := jw.2.2;rw [ck q2] at gJ;rw [m2, m3];refine de (f := 55) Tryz.func55 rfl (db rfl) (by exact ed rfl) ?_;(repeat first | (with_reducible apply dj (id := 0) [22,23,0,1,2,3,4,5,6,7,8,9,10,11,12,13,14,15,16,17,18,19,20,21,24,25]); kernel_rfl; kernel_rfl; rfl | refine cF ?_ | refine ia ?_);refine hY rfl rfl rfl rfl rfl rfl rfl rfl H1 jt (fun aq aw b0 => ?_);obtain ⟨bP, cX, cS, bK, c7, gA, fA, gI, im, rfl, rfl⟩ := id b0;have bD := y7 (E := E) (k := r) (rm := rm) (ph := s1.ph) (I := s1.I) (J := s1.J) (T := s1.T) (dirty := s1.dirty) (hv := bP) (fv := cX) (cv := cS) (b := bK) gI E.length (by omega) (by omega);rw [gJ, ← jw.1, ← jw.2.1] at bD;have fq : dm E r rm { s1 with I := (b6 E.length s1.I s1.J).1, J := (b6 E.length s1.I s1.J).2 } (ep E r rm s1.ph (b6 E.length s1.I s1.J).1 (b6 E.length s1.I s1.J).2 s1.T s1.dirty bP cX cS bK gA) (dF bK c7 bP cX cS s1.hot s1.fnd s1.ch) := ⟨bP, cX, cS, bK, c7, gA, fA, gI, im, rfl, rfl⟩;(refine aZ ?_);refine jV 1000 rfl rfl rfl rfl bD rfl rfl b0.closed rfl rfl ?_;(refine aZ ?_)
   ((refine eH rfl aK rfl (bt.refl _) fq.closed rfl eX ?_))
   refine ⟨_, rfl, rfl, ?_⟩;rw [← m2, ← m3];exact fq
  ·rw [if_neg q2];have gJ := jw.2.2;rw [cC q2] at gJ;rw [m2, m3];refine de (f := 55) Tryz.func55 rfl (db rfl) (by exact ed rfl) ?_;(repeat first | (with_reducible apply dj (id := 0) [22,23,0,1,2,3,4,5,6,7,8,9,10,11,12,13,14,15,16,17,18,19,20,21,24,25]); kernel_rfl; kernel_rfl; rfl | refine cF ?_ | refine ia ?_);refine hY rfl rfl rfl rfl rfl rfl rfl rfl H1 jt (fun aq aw b0 => ?_);obtain ⟨bP, cX, cS, bK, c7, gA, fA, gI, im, rfl, rfl⟩ := id b0;have bD := y7 (E := E) (k := r) (rm := rm) (ph := s1.ph) (I := s1.I) (J := s1.J) (T := s1.T) (dirty := s1.dirty) (hv := bP) (fv := cX) (cv := cS) (b := bK) gI E.length (by omega) (by omega);rw [gJ, ← jw.1, ← jw.2.1] at bD;have fq : dm E r rm { s1 with I := (b6 E.length s1.I s1.J).1, J := (b6 E.length s1.I s1.J).2 } (ep E r rm s1.ph (b6 E.length s1.I s1.J).1 (b6 E.length s1.I s1.J).2 s1.T s1.dirty bP cX cS bK gA) (dF bK c7 bP cX cS s1.hot s1.fnd s1.ch) := ⟨bP, cX, cS, bK, c7, gA, fA, gI, im, rfl, rfl⟩;(refine aZ ?_);refine jV 1000 rfl rfl rfl rfl bD rfl rfl b0.closed rfl rfl ?_;(refine aZ ?_);refine hY rfl rfl rfl rfl rfl rfl rfl rfl dV fq (fun aq aw k3 => ?_);(refine aZ ?_);obtain ⟨wF, Bt, Bc, dz, xG, Cs, BF, BZ, BX, rfl, rfl⟩ := id k3
   ((refine eH rfl aK rfl (bt.refl _) k3.closed rfl eX ?_))
   exact ⟨_, rfl, rfl, k3⟩
end
section
variable {E : List (Int × bU)} {r rm : Nat}
theorem Vb {r : Nat} {l m : an × an} (h1 : er r l.1.1 l.1.2 = true) (h2 : er r l.2.1 l.2.2 = true) (h3 : er r m.1.1 m.1.2 = true) (aE : er r m.2.1 m.2.2 = true) : At (n6 r l m) := by
 unfold n6
 split
 ·exact .inl rfl
 ·exact Oh (qh h1) (qh h2) (qh h3) (qh aE)
theorem ZC {s : bp.aS an} (al : r ≤ 28) (aj : kc s.ch) (aA : 0 < s.ch.length) (pi : s.I < s.J) (ki : s.J < (aX s.ch).length) (ao : ∀ l ∈ aX s.ch, er r l.1.1 l.1.2 = true ∧ er r l.2.1 l.2.2 = true) (ap : s.fnd = []) (aR : s.hot.length ≤ 1024) (gL : s.ph = 3) : fM E r rm 57 [] s ln (rU (bu E r rm) s) := by
 have we : (aX s.ch).length ≤ 300 * 1100 := h8 (Cv (m := 1100) fun c h => (aj.2 c h).2) (j1 _ aj.1);obtain ⟨a1, a2, a3, a4, g1⟩ : ∃ a b c d, (aX s.ch)[s.I]? = some ((a, b), (c, d)) := ⟨_, _, _, _, bQ (by omega)⟩;obtain ⟨b1, b2, dQ, dz, g2⟩ : ∃ a b c d, (aX s.ch)[s.J]? = some ((a, b), (c, d)) := ⟨_, _, _, _, bQ ki⟩;obtain ⟨gU, z2⟩ := ao _ (c5 g1);obtain ⟨z3, z4⟩ := ao _ (c5 g2);have aU := acr al (l := ((a1, a2), (a3, a4))) (m := ((b1, b2), (dQ, dz))) gU z2 z3 z4;have fV := Vb (l := ((a1, a2), (a3, a4))) (m := ((b1, b2), (dQ, dz))) gU z2 z3 z4;have hcut : (bu E r rm).cut ((a1, a2), (a3, a4)) ((b1, b2), (dQ, dz)) = lL r (n6 r ((a1, a2), (a3, a4)) ((b1, b2), (dQ, dz))) := KW r _ _;have H1 := Nx (E := E) (r := r) (rm := rm) (s := s) al fV (fun af => KX (l := ((a1, a2), (a3, a4))) (m := ((b1, b2), (dQ, dz))) gU z2 (by rw [KW, if_pos af])) (by omega) ap (by omega);have mz := NO (ii := (s.I : Int)) rfl g1;have si := NO (ii := (s.J : Int)) rfl g2
 have em : rU (bu E r rm) s = if (bp.dL (bu E r rm) s (lL r (n6 r ((a1, a2), (a3, a4)) ((b1, b2), (dQ, dz))))).ph = 5 then bp.dL (bu E r rm) s (lL r (n6 r ((a1, a2), (a3, a4)) ((b1, b2), (dQ, dz)))) else
   if (b6 (aX s.ch).length s.I s.J).2 < (aX s.ch).length then { bp.dL (bu E r rm) s (lL r (n6 r ((a1, a2), (a3, a4)) ((b1, b2), (dQ, dz)))) with I := (b6 (aX s.ch).length s.I s.J).1, J := (b6 (aX s.ch).length s.I s.J).2 } else nf (bp.dL (bu E r rm) s (lL r (n6 r ((a1, a2), (a3, a4)) ((b1, b2), (dQ, dz))))) := by
  unfold rU;simp only [g1, g2, hcut]
 rw [em];clear em hcut fV gU z2 z3 z4 g1 g2;simp only at aU H1;generalize n6 r ((a1, a2), (a3, a4)) ((b1, b2), (dQ, dz)) = M at *;have jw := OP (n := (aX s.ch).length) (I := s.I) (J := s.J) ki;have i0 : (0 : Int) ≤ (s.I : Int) := by omega
 have i1 : (s.I : Int) < ((aX s.ch).length : Int) := by omega
 have Ze : (0 : Int) ≤ (s.J : Int) := by omega
 have qu : (s.J : Int) < ((aX s.ch).length : Int) := by omega
 rintro cs R jt;obtain ⟨hv, fv, cv, b, S, lk, hS, cK, fI, rfl, rfl⟩ := id jt;obtain rfl := fI gL
 by_cases af : M.k = 1
 ·have rl : lL r M = some (iv r M) := if_pos af;rw [rl] at H1 ⊢;have rv := BN (o := bu E r rm) (s := s) (q := iv r M);have wj := BO (o := bu E r rm) (q := iv r M) ap;have uF := BP (o := bu E r rm) (s := s) (q := iv r M);unfold bp.dL;simp only [kk] at H1 ⊢;generalize dE (bu E r rm) s (iv r M) = s1 at *
  by_cases q1 : s1.ph = 5
  ·rw [if_pos q1, if_pos q1];rw [q1] at H1;obtain ⟨mk, Hj, md, dt, Hc, Hk, Hl, Hm, Hn⟩ := M;obtain rfl : mk = 1 := af;refine de (f := 57) Tryz.func57 rfl (db rfl) (by exact ed rfl) ?_;(repeat first | (with_reducible apply dj (id := 1) [20,21,0,1,2,3,4,5,6,7,8,9,10,11,12,13,14,15,16,17,18,19,22,23]); kernel_rfl; kernel_rfl; rfl | (with_reducible apply dj (id := 2) [7,0,1,2,3,4,5,6,8]); kernel_rfl; kernel_rfl; rfl | refine cF ?_ | refine ia ?_);refine hY rfl rfl rfl rfl rfl rfl rfl rfl H1 jt (fun aq aw b0 => ?_);(refine aZ ?_);obtain ⟨bP, cX, cS, bK, c7, gA, fA, gI, im, rfl, rfl⟩ := id b0
   ((refine eH rfl aK rfl (bt.refl _) b0.closed rfl eX ?_))
   exact ⟨_, rfl, rfl, b0⟩
  ·rw [if_neg q1, if_neg q1];rw [A3 q1] at H1;obtain ⟨m1, m2, m3, m4⟩ := uF q1;have sH : s1.ch = s.ch := rv.2.1;have dV := Nz (E := E) (r := r) (rm := rm) (s := { s1 with dirty := true, I := (b6 (aX s.ch).length s.I s.J).1, J := (b6 (aX s.ch).length s.I s.J).2 }) wj (by show kc s1.ch; rw [sH]; exact aj) (by show 0 < s1.ch.length; rw [sH]; exact aA);rw [show nf ({ s1 with dirty := true, I := (b6 (aX s.ch).length s.I s.J).1, J := (b6 (aX s.ch).length s.I s.J).2 } : bp.aS an) = nf ({ s1 with dirty := true } : bp.aS an) from rfl] at dV;have nC : (s1.I : Int) = s.I := by omega
   have B1 : (s1.J : Int) = s.J := by omega
   obtain ⟨mk, Hj, md, dt, Hc, Hk, Hl, Hm, Hn⟩ := M;obtain rfl : mk = 1 := af
   by_cases q2 : (b6 (aX s.ch).length s.I s.J).2 < (aX s.ch).length
   ·rw [if_pos q2];have gJ := jw.2.2;rw [ck q2] at gJ;refine de (f := 57) Tryz.func57 rfl (db rfl) (by exact ed rfl) ?_;(repeat first | (with_reducible apply dj (id := 1) [20,21,0,1,2,3,4,5,6,7,8,9,10,11,12,13,14,15,16,17,18,19,22,23]); kernel_rfl; kernel_rfl; rfl | (with_reducible apply dj (id := 2) [7,0,1,2,3,4,5,6,8]); kernel_rfl; kernel_rfl; rfl | refine cF ?_ | refine ia ?_);refine hY rfl rfl rfl rfl rfl rfl rfl rfl H1 jt (fun aq aw b0 => ?_);obtain ⟨bP, cX, cS, bK, c7, gA, fA, gI, im, rfl, rfl⟩ := id b0;obtain rfl := im (by omega);have bD := y7 (E := E) (k := r) (rm := rm) (ph := s1.ph) (I := s1.I) (J := s1.J) (T := s1.T) (dirty := true) (hv := bP) (fv := cX) (cv := cS) (b := bK) gI (aX s1.ch).length (by omega) (by omega);rw [sH, nC, B1, gJ, ← jw.1, ← jw.2.1] at bD;have fq : dm E r rm { s1 with dirty := true, I := (b6 (aX s.ch).length s.I s.J).1, J := (b6 (aX s.ch).length s.I s.J).2 } (ep E r rm s1.ph (b6 (aX s.ch).length s.I s.J).1 (b6 (aX s.ch).length s.I s.J).2 s1.T true bP cX cS bK (.p (cl 4 (aX s1.ch).length (me (aX s1.ch))))) (dF bK c7 bP cX cS s1.hot s1.fnd s1.ch) := ⟨bP, cX, cS, bK, c7, _, fA, rfl, fun _ => rfl, rfl, rfl⟩;rw [sH] at fq;rw [nC, B1, sH];(refine aZ ?_);refine jV 1000 rfl rfl rfl rfl bD rfl rfl rfl rfl rfl ?_;(refine aZ ?_)
    ((refine eH rfl aK rfl (bt.refl _) fq.closed rfl eX ?_))
    exact ⟨_, rfl, rfl, fq⟩
   ·rw [if_neg q2];have gJ := jw.2.2;rw [cC q2] at gJ;refine de (f := 57) Tryz.func57 rfl (db rfl) (by exact ed rfl) ?_;(repeat first | (with_reducible apply dj (id := 1) [20,21,0,1,2,3,4,5,6,7,8,9,10,11,12,13,14,15,16,17,18,19,22,23]); kernel_rfl; kernel_rfl; rfl | (with_reducible apply dj (id := 2) [7,0,1,2,3,4,5,6,8]); kernel_rfl; kernel_rfl; rfl | refine cF ?_ | refine ia ?_);refine hY rfl rfl rfl rfl rfl rfl rfl rfl H1 jt (fun aq aw b0 => ?_);obtain ⟨bP, cX, cS, bK, c7, gA, fA, gI, im, rfl, rfl⟩ := id b0;obtain rfl := im (by omega);have bD := y7 (E := E) (k := r) (rm := rm) (ph := s1.ph) (I := s1.I) (J := s1.J) (T := s1.T) (dirty := true) (hv := bP) (fv := cX) (cv := cS) (b := bK) gI (aX s1.ch).length (by omega) (by omega);rw [sH, nC, B1, gJ, ← jw.1, ← jw.2.1] at bD;have fq : dm E r rm { s1 with dirty := true, I := (b6 (aX s.ch).length s.I s.J).1, J := (b6 (aX s.ch).length s.I s.J).2 } (ep E r rm s1.ph (b6 (aX s.ch).length s.I s.J).1 (b6 (aX s.ch).length s.I s.J).2 s1.T true bP cX cS bK (.p (cl 4 (aX s1.ch).length (me (aX s1.ch))))) (dF bK c7 bP cX cS s1.hot s1.fnd s1.ch) := ⟨bP, cX, cS, bK, c7, _, fA, rfl, fun _ => rfl, rfl, rfl⟩;rw [sH] at fq dV;rw [nC, B1, sH];(refine aZ ?_);refine jV 1000 rfl rfl rfl rfl bD rfl rfl rfl rfl rfl ?_;(refine aZ ?_);refine hY rfl rfl rfl rfl rfl rfl rfl rfl dV fq (fun aq aw k3 => ?_);(refine aZ ?_);obtain ⟨wF, Bt, Bc, dz, xG, Cs, BF, BZ, BX, rfl, rfl⟩ := id k3
    ((refine eH rfl aK rfl (bt.refl _) k3.closed rfl eX ?_))
    exact ⟨_, rfl, rfl, k3⟩
 ·have rl : lL r M = none := if_neg af;rw [rl];have VT : bp.dL (bu E r rm) s none = s := rfl;rw [VT, if_neg (by omega)];clear H1;have dV := Nz (E := E) (r := r) (rm := rm) (s := { s with I := (b6 (aX s.ch).length s.I s.J).1, J := (b6 (aX s.ch).length s.I s.J).2 }) ap aj aA;rw [show nf ({ s with I := (b6 (aX s.ch).length s.I s.J).1, J := (b6 (aX s.ch).length s.I s.J).2 } : bp.aS an) = nf s from rfl] at dV;have bD := y7 (E := E) (k := r) (rm := rm) (ph := s.ph) (I := s.I) (J := s.J) (T := s.T) (dirty := s.dirty) (hv := hv) (fv := fv) (cv := cv) (b := b) cK (aX s.ch).length (by omega) (by omega);have fq : dm E r rm { s with I := (b6 (aX s.ch).length s.I s.J).1, J := (b6 (aX s.ch).length s.I s.J).2 } (ep E r rm s.ph (b6 (aX s.ch).length s.I s.J).1 (b6 (aX s.ch).length s.I s.J).2 s.T s.dirty hv fv cv b (.p (cl 4 (aX s.ch).length (me (aX s.ch))))) (dF b S hv fv cv s.hot s.fnd s.ch) := ⟨hv, fv, cv, b, S, _, hS, rfl, fun _ => rfl, rfl, rfl⟩;obtain ⟨mk, Hj, md, dt, Hc, Hk, Hl, Hm, Hn⟩ := M;have af : ¬ mk = 1 := af
  by_cases q2 : (b6 (aX s.ch).length s.I s.J).2 < (aX s.ch).length
  ·rw [if_pos q2];have gJ := jw.2.2;rw [ck q2] at gJ;rw [gJ, ← jw.1, ← jw.2.1] at bD;refine de (f := 57) Tryz.func57 rfl (db rfl) (by exact ed rfl) ?_;(repeat first | (with_reducible apply dj (id := 1) [20,21,0,1,2,3,4,5,6,7,8,9,10,11,12,13,14,15,16,17,18,19,22,23]); kernel_rfl; kernel_rfl; rfl | (with_reducible apply dj (id := 2) [7,0,1,2,3,4,5,6,8]); kernel_rfl; kernel_rfl; rfl | refine cF ?_ | refine ia ?_);refine jV 1000 rfl rfl rfl rfl bD rfl rfl rfl rfl rfl ?_;(refine aZ ?_)
   ((refine eH rfl aK rfl (bt.refl _) fq.closed rfl eX ?_))
   exact ⟨_, rfl, rfl, fq⟩
  ·rw [if_neg q2];have gJ := jw.2.2;rw [cC q2] at gJ;rw [gJ, ← jw.1, ← jw.2.1] at bD;refine de (f := 57) Tryz.func57 rfl (db rfl) (by exact ed rfl) ?_;(repeat first | (with_reducible apply dj (id := 1) [20,21,0,1,2,3,4,5,6,7,8,9,10,11,12,13,14,15,16,17,18,19,22,23]); kernel_rfl; kernel_rfl; rfl | (with_reducible apply dj (id := 2) [7,0,1,2,3,4,5,6,8]); kernel_rfl; kernel_rfl; rfl | refine cF ?_ | refine ia ?_);refine jV 1000 rfl rfl rfl rfl bD rfl rfl rfl rfl rfl ?_;(refine aZ ?_);refine hY rfl rfl rfl rfl rfl rfl rfl rfl dV fq (fun aq aw k3 => ?_);(refine aZ ?_);obtain ⟨wF, Bt, Bc, dz, xG, Cs, BF, BZ, BX, rfl, rfl⟩ := id k3
   ((refine eH rfl aK rfl (bt.refl _) k3.closed rfl eX ?_))
   exact ⟨_, rfl, rfl, k3⟩
end
end Go.Proofs.YtbcecodakfejaaaGreat
