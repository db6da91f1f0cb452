/-
  My own texts, without what this claim does not need. My own text.
-/
import Derived.Test.YtbcecodakfejaaaGreatSKeepsK14
set_option maxRecDepth 100000
set_option maxHeartbeats 64000000
set_option linter.unusedVariables false
set_option linter.unusedSimpArgs false
set_option linter.unusedSectionVars false
open Go.Proofs.Tryz renaming prog → ag
namespace Go.Proofs.YtbcecodakfejaaaGreat
open Go.RowKit
open br
theorem Vy {ch : List (List ao × List Int)} (aj : ∀ c ∈ ch, c.1.length = c.2.length + 1 ∧ c.1.length ≤ 1100) (hl : ch.length ≤ 300) : pW ag 156 [sd ch] (fun v q => v = aQ q.v ∧ q = td q.v (aP ch)) := by
 refine GD rfl (fun v q h => by obtain ⟨rfl, _⟩ := h; rfl) ?_;refine dE (f := 156) Tryz.func156 rfl (dA rfl) (by exact oo) ?_;(refine bc ?_);refine oO 0 155 4 rfl ?_
 skip
 refine kw 28 (US ch) ch.length (bC 0 (td (.slice none 0 0) [])) _ [] ⟨0, 0, .slice none 0 0, dJ _, rfl, rfl, rfl, rfl, rfl⟩ (nt _ _ _) rfl ⟨rfl, rfl, rfl, rfl, trivial⟩ trivial rfl ?_;rintro n R aL bh ⟨i, ii, v, hi, rfl, gS, rfl, rfl, rfl⟩ c9;clear c9
 by_cases ak : i < ch.length
 ·have q2 : ii < (ch.length : Int) := by omega
  have bB : 0 ≤ ii := by omega
  obtain ⟨c, g1⟩ : ∃ c, ch[i]? = some c := ⟨_, bN ak⟩;obtain ⟨iZ, ja⟩ := aj c (dc g1);have k1 := xq gS g1
  have akK : (aP (ch.take i)).length ≤ 300 * 1100 := by
   refine ht (Ee (m := 1100) fun c rK => (aj c (n2 rK)).2) (kT _ ?_);rw [ei]; omega
  have cl : aP (ch.take (i + 1)) = aP (ch.take i) ++ iw c.1 := by
   rw [mM ak, Ed, show ch[i] = c from lc ((bN ak).symm.trans g1)];simp [aP]
  have OS : (iw c.1).length = c.2.length := by rw [uG]; omega
  obtain ⟨V, D⟩ := c;simp only at iZ ja k1 cl OS;generalize aP (ch.take i) = pre at *;(refine bc ?_);refine kw 28 (UR ch V D ii pre) D.length (bC 0 (td v pre)) _ [(5, [.p (cM 2 V.length (b3 V)), .p (cM 1 D.length (cV D))])] ⟨0, 0, v, dJ _, rfl, rfl, by simp, rfl, rfl⟩ (bx.refl _) rfl ⟨rfl, rfl, rfl, rfl, rfl, rfl, rfl, trivial⟩ ⟨rfl, trivial⟩ rfl ?_;rintro n R aL bh ⟨j, eC, v, ae, rfl, pg, rfl, rfl, rfl⟩ c9;clear c9;have hR : ((iw V).take j).length = j := by rw [ei]; omega
  by_cases hs : j < D.length
  ·have s2 : eC < (D.length : Int) := by omega
   obtain ⟨a, b, g2⟩ : ∃ a b, V[j]? = some (a, b) := ⟨_, _, bN (by omega)⟩;obtain ⟨c, d, g3⟩ : ∃ a b, V[j + 1]? = some (a, b) := ⟨_, _, bN (by omega)⟩;have aS := RL (D := D) g2 g3 (by omega);rw [← pg] at aS
   have ey : pre ++ (iw V).take (j + 1) = (pre ++ (iw V).take j) ++ [((a, b), (c, d))] := by
    have h1 : j + 1 < V.length := by omega
    have h2 := acW h1;rw [show V[j] = (a, b) from lc ((bN (by omega)).symm.trans g2), show V[j + 1] = (c, d) from lc ((bN (by omega)).symm.trans g3)] at h2;obtain ⟨h3, aD⟩ := bL.1 h2;rw [mM h3, aD, hK]
   have hlen : (pre ++ (iw V).take j).length ≤ 300 * 1100 + 1100 := by rw [cO, hR]; omega
   (refine oV ?_);refine rR 0 rfl rfl rfl rfl ?q1 ?q2 rfl rfl (fun v' b8 => ?_)
   case q1 => exact lA (by show (pre ++ (iw V).take j).length + 1 ≤ 1000000; omega)
   case q2 => show ((pre ++ (iw V).take j).length + 1) * 32 ≤ 140737488355328; omega
   (refine bc ?_);exact ⟨D.length - (j + 1), bC 0 (td v' (pre ++ (iw V).take (j + 1))), _, [(5, [.p (cM 2 V.length (b3 V)), .p (cM 1 D.length (cV D))])], by omega, ⟨j + 1, eC + 1, v', by omega, rfl, by omega, rfl, rfl, rfl⟩, by rw [ey, acT]; exact nt _ _ _, rfl, ⟨rfl, rfl, rfl, rfl, rfl, rfl, rfl, trivial⟩, ⟨rfl, trivial⟩, rfl⟩
  ·have s2 : ¬ eC < (D.length : Int) := by omega
   have k2 : (iw V).take j = iw V := h4 (by omega);rw [k2, ← cl];(refine bc ?_);exact ⟨ch.length - (i + 1), bC 0 (td v (aP (ch.take (i + 1)))), _, [], by omega, ⟨i + 1, ii + 1, v, by omega, rfl, by omega, rfl, rfl, rfl⟩, bx.refl _, rfl, ⟨rfl, rfl, rfl, rfl, trivial⟩, trivial, rfl⟩
 ·have q2 : ¬ ii < (ch.length : Int) := by omega
  have dh : ch.take i = ch := h4 (by omega);rw [dh];(refine bc ?_)
  ((refine zP rfl (aY rfl aJ) rfl rfl (j4 _) ?_))
  exact ⟨rfl, rfl⟩
theorem acU (l : List (ao × ao)) : vi (ni l) := .of fun y ai => by
 obtain ⟨x, _, aa⟩ := List.mem_flatMap.1 ai;simp only [x6, fl, pK, or_false] at aa;rcases aa with rfl | rfl | rfl | rfl <;> exact ⟨_, rfl⟩
theorem CG {l : List (List ao × List Int)} {i : Nat} {ii : Int} {V : List ao} {D : List Int} (hi : ii = i) (h : l[i]? = some (V, D)) : (ii.toNat * 2 + 2 ≤ (eG l).length ∧ ((eG l).drop (ii.toNat * 2)).take 2 = [.p (cM 2 V.length (b3 V)), .p (cM 1 D.length (cV D))]) ∧ (eG l)[ii.toNat * 2 + 1]? = some (.p (cM 1 D.length (cV D))) := by
 have h2 := xq hi h
 have h1 : ii.toNat * 2 + 2 ≤ (eG l).length := by
  have := C1 (f := qg) (z := 2) (fun _ => rfl) l;unfold eG;rw [this];have := (bL.1 h).1;omega
 refine ⟨⟨h1, h2⟩, ?_⟩;have h3 : (((eG l).drop (ii.toNat * 2)).take 2)[1]? = some (.p (cM 1 D.length (cV D))) := by rw [h2]; rfl
 rw [fJ (by decide), fY] at h3;exact h3
theorem abv {l : List ao} {i : Nat} {ii x y : Int} (hi : ii = i) (h : l[i]? = some (x, y)) : ii.toNat * 2 + 2 ≤ (b3 l).length ∧ ((b3 l).drop (ii.toNat * 2)).take 2 = [.c (.int .i64 x), .c (.int .i64 y)] := by
 have := (bL.1 h).1;refine ⟨by rw [oD]; omega, uE hi h⟩
section
variable {E : List (Int × bO)} {r rm : Nat}
def kZ (ch : List (List ao × List Int)) : Prop := ch.length ≤ 300 ∧ ∀ c ∈ ch, c.1.length = c.2.length + 1 ∧ c.1.length ≤ 1100
theorem PT {s : br.aT ao} (hd : s.dirty = false) (ap : s.fnd = []) : gw E r rm 104 [] s mj (et s 4 0 0) := by
 obtain ⟨ph, I, J, T, dirty, hot, fnd, ch⟩ := s;obtain rfl : dirty = false := hd;obtain rfl : fnd = [] := ap;rintro cs R ⟨hv, fv, cv, b, S, lk, hS, db, gn, rfl, rfl⟩;have dD : (eE E r rm ph I J T false hv fv cv b lk).all AC.aZ = true := by simp only [kt, nr, db]; rfl
 have bD := Jd (E := E) (k := r) (rm := rm) (ph := ph) (I := I) (J := J) (T := T) (dirty := false) (hv := hv) (fv := fv) (cv := cv) (b := b) db 4;refine dE (f := 104) Tryz.func104 rfl (dA rfl) (by exact ew rfl) ?_;(refine bc ?_);refine kL 1000 rfl rfl rfl rfl bD rfl rfl dD rfl rfl ?_;(refine bc ?_)
 ((refine eT rfl aJ rfl (bx.refl _) rfl rfl fm ?_))
 exact ⟨_, rfl, rfl, hv, fv, cv, b, S, .c (.slice none 0 0), hS, rfl, fun h => (by cases h), rfl, rfl⟩
theorem acj {s : br.aT ao} (hd : s.dirty = false) (ap : s.fnd = []) (aj : kZ s.ch) : gw E r rm 132 [] s mj (if (aP s.ch).length < 2 then et s 4 0 0 else et s 3 0 1) := by
 obtain ⟨ph, I, J, T, dirty, hot, fnd, ch⟩ := s;obtain rfl : dirty = false := hd;obtain rfl : fnd = [] := ap;have aj : kZ ch := aj;rintro cs R ⟨hv, fv, cv, b, S, lk, hS, db, gn, rfl, rfl⟩;have dD : (eE E r rm ph I J T false hv fv cv b lk).all AC.aZ = true := by simp only [kt, nr, db]; rfl
 have aS := D2 (E := E) (k := r) (rm := rm) (ph := ph) (I := I) (J := J) (T := T) (dirty := false) (hv := hv) (fv := fv) (cv := cv) (b := b) db 3 1;have bD := Vy (ch := ch) aj.2 aj.1;have dW := PT (E := E) (r := r) (rm := rm) (s := ⟨3, 0, 1, 0, false, hot, [], ch⟩) rfl rfl;simp only;have ON := acU (aP ch);have c4 := Xo ch;have hS : tP rm hot (eh b) S := hS;generalize iq : aP ch = L at *
 by_cases h2 : L.length < 2
 ·rw [if_pos h2];have sM : (1 : Int) ≥ (L.length : Int) := by omega
  refine dE (f := 132) Tryz.func132 rfl (dA rfl) (by exact ew rfl) ?_;(refine bc ?_);refine kL 1000 rfl rfl rfl rfl aS rfl rfl dD rfl rfl ?_;(refine bc ?_);refine Pg 3 9 (by decide) rfl rfl rfl rfl bD rfl (j4 _) (fun y ai => cB.1 c4 y ai) rfl rfl (fun v q h => ?_) (fun q h => ?_)
  ·obtain ⟨rfl, h⟩ := h;rw [h]; exact ⟨rfl, ON⟩
  obtain ⟨_, h⟩ := h;rw [h];(repeat first | (with_reducible apply dl (id := 2) [0,1,2,3,4,5,6,7,8,9,10]); kernel_rfl; kernel_rfl; rfl | refine cG ?_);refine iO rfl rfl rfl rfl rfl rfl rfl rfl dW ⟨hv, fv, cv, b, S, .p (cM 4 L.length (ni L)), hS, rfl, fun _ => by rw [iq], rfl, rfl⟩ (fun ar ay cr => ?_);(refine bc ?_);obtain ⟨b8, dq, df, bE, dw, ho, fU, hD, je, rfl, rfl⟩ := id cr
  ((refine eT rfl aJ rfl (bx.refl _) cr.closed rfl fm ?_))
  exact ⟨_, rfl, rfl, cr⟩
 ·rw [if_neg h2];have sM : ¬ (1 : Int) ≥ (L.length : Int) := by omega
  refine dE (f := 132) Tryz.func132 rfl (dA rfl) (by exact ew rfl) ?_;(refine bc ?_);refine kL 1000 rfl rfl rfl rfl aS rfl rfl dD rfl rfl ?_;(refine bc ?_);refine Pg 3 9 (by decide) rfl rfl rfl rfl bD rfl (j4 _) (fun y ai => cB.1 c4 y ai) rfl rfl (fun v q h => ?_) (fun q h => ?_)
  ·obtain ⟨rfl, h⟩ := h;rw [h]; exact ⟨rfl, ON⟩
  obtain ⟨_, h⟩ := h;rw [h];(repeat first | (with_reducible apply dl (id := 2) [0,1,2,3,4,5,6,7,8,9,10]); kernel_rfl; kernel_rfl; rfl | refine cG ?_)
  ((refine eT rfl aJ rfl (bx.refl _) rfl rfl fm ?_))
  exact ⟨_, rfl, rfl, hv, fv, cv, b, S, .p (cM 4 L.length (ni L)), hS, rfl, fun _ => by show _ = AC.p (cM 4 (aP ch).length (ni (aP ch))); rw [iq], rfl, rfl⟩
def Vl (E : List (Int × bO)) (r rm : Nat) (s : br.aT ao) (hv fv cv : Value) (b : Nat) (S : e4) (lk : AC) (n : Nat) (R : aI) (aL : List (Nat × ah)) (bh : List (Nat × List AC)) : Prop :=
 ∃ (I J : Nat), I < s.ch.length ∧ n = s.ch.length - I ∧ jm s = jm { s with I := I, J := J } ∧ J ≤ 1100 ∧ R = dZ b S hv fv cv s.hot [] s.ch ∧ aL = [(0, sf), (2, .w (.one (.own 1000 1)))] ∧ bh = [(1000, eE E r rm s.ph I J s.T false hv fv cv b lk)]
theorem ahQ {s : br.aT ao} {I J : Nat} {V : List ao} {D : List Int} (h : s.ch[I]? = some (V, D)) : jm ({ s with I := I, J := J } : br.aT ao) = if J + 1 < V.length then ({ s with I := I, J := J } : br.aT ao) else jm ({ s with I := I + 1, J := 0 } : br.aT ao) := by
 have hl := (bL.1 h).1;unfold jm;have e : s.ch.drop I = (V, D) :: s.ch.drop (I + 1) := by rw [nm hl, (bL.1 h).2]
 simp only [e, n8]
 by_cases ae : J + 1 < V.length
 ·rw [if_pos ae, if_pos ae]
 ·rw [if_neg ae, if_neg ae]; rfl
theorem ahR {s : br.aT ao} (h : s.ch.length ≤ s.I) : jm s = if (aP s.ch).length < 2 then et s 4 0 0 else et s 3 0 1 := by
 unfold jm;rw [List.drop_eq_nil_of_le h];rfl
theorem PU {s : br.aT ao} (hd : s.dirty = false) (ap : s.fnd = []) (aj : kZ s.ch) (bl : s.I < s.ch.length) (im : s.J ≤ 1100) (gT : s.ph = 2) : gw E r rm 98 [] s mj (jm s) := by
 rintro cs R ⟨hv, fv, cv, b, S, lk, hS, db, gn, rfl, rfl⟩;rw [hd, ap];have dD : ∀ I J : Int, (eE E r rm s.ph I J s.T false hv fv cv b lk).all AC.aZ = true := fun I J => by simp only [kt, nr, db]; rfl
 refine dE (f := 98) Tryz.func98 rfl (dA rfl) (by exact ew rfl) ?_;(refine bc ?_);refine kw 46 (Vl E r rm s hv fv cv b S lk) (s.ch.length - s.I) (dZ b S hv fv cv s.hot [] s.ch) _ [(1000, eE E r rm s.ph s.I s.J s.T false hv fv cv b lk)] ⟨s.I, s.J, bl, rfl, rfl, im, rfl, rfl, rfl⟩ (bx.refl _) rfl ⟨rfl, rfl, trivial⟩ ⟨rfl, trivial⟩ ?_ ?_
 ·cases lk <;> first | rfl | cases db
 rintro n R aL bh ⟨I, J, Zg, rfl, IG, Zi, rfl, rfl, rfl⟩ c9;clear c9;obtain ⟨V, D, g1⟩ : ∃ V D, s.ch[I]? = some (V, D) := ⟨_, _, bN Zg⟩;obtain ⟨iZ, ja⟩ := aj.2 _ (dc g1);have hlen := aj.1;simp only at iZ ja;obtain ⟨mR, sn⟩ := CG (ii := (I : Int)) rfl g1;have An := ahQ (s := s) (J := J) g1;have q0 : (0 : Int) ≤ (I : Int) := by omega
 have q1 : (I : Int) < (s.ch.length : Int) := by omega
 have q2 : 0 < s.ch.length := by omega
 by_cases ae : J + 1 < V.length
 ·have iu : ¬ (J : Int) ≥ (D.length : Int) := by omega
  rw [if_pos ae] at An;(repeat first | (with_reducible apply dl (id := 1) [0,1,2,3,4,5,6,7,8,9,10,11,12,13,14,15,16]); kernel_rfl; kernel_rfl; rfl | refine cG ?_ | (with_reducible apply jT 3); (iterate 4 rfl); (omega); (assumption); rfl; kernel_rfl; rfl | (with_reducible apply Ag 3); (iterate 3 rfl); (assumption); kernel_rfl; rfl | (with_reducible apply Ah 3); (iterate 3 rfl); (assumption); assumption; rfl; kernel_rfl; rfl)
  ((refine eT rfl aJ rfl (bx.refl _) (dD _ _) rfl fm ?_))
  refine ⟨_, rfl, rfl, hv, fv, cv, b, S, lk, ?_⟩;rw [IG, An];exact ⟨hS, db, gn, by rw [hd], by rw [ap]⟩
 ·have iu : (J : Int) ≥ (D.length : Int) := by omega
  rw [if_neg ae] at An
  by_cases hl : I + 1 = s.ch.length
  ·have e6 : (I : Int) + 1 = (s.ch.length : Int) := by omega
   have dW := acj (E := E) (r := r) (rm := rm) (s := { s with I := I + 1, J := 0 }) hd ap aj;have aa1 := ahR (s := { s with I := I + 1, J := 0 }) (by show s.ch.length ≤ I + 1; omega);rw [← aa1] at dW;(repeat first | (with_reducible apply dl (id := 1) [0,1,2,3,4,5,6,7,8,9,10,11,12,13,14,15,16]); kernel_rfl; kernel_rfl; rfl | (with_reducible apply dl (id := 3) [0,1,2,3,4,5,6,7,8,9]); kernel_rfl; kernel_rfl; rfl | refine cG ?_ | (with_reducible apply nR 3); (iterate 4 rfl); kernel_rfl; rfl | (with_reducible apply jT 3); (iterate 4 rfl); (omega); (assumption); rfl; kernel_rfl; rfl | (with_reducible apply Ag 3); (iterate 3 rfl); (assumption); kernel_rfl; rfl | (with_reducible apply Ah 3); (iterate 3 rfl); (assumption); assumption; rfl; kernel_rfl; rfl);refine iO rfl rfl rfl rfl rfl rfl rfl rfl dW ⟨hv, fv, cv, b, S, lk, hS, db, gn, by rw [hd]; rfl, by rw [ap]⟩ (fun ar ay cr => ?_);(refine bc ?_);obtain ⟨b8, dq, df, bE, dw, ho, fU, hD, je, rfl, rfl⟩ := id cr
   ((refine eT rfl aJ rfl (bx.refl _) cr.closed rfl fm ?_))
   refine ⟨_, rfl, rfl, ?_⟩;rw [IG, An];exact cr
  ·have e6 : ¬ (I : Int) + 1 = (s.ch.length : Int) := by omega
   (repeat first | (with_reducible apply dl (id := 1) [0,1,2,3,4,5,6,7,8,9,10,11,12,13,14,15,16]); kernel_rfl; kernel_rfl; rfl | (with_reducible apply dl (id := 3) [0,1,2,3,4,5,6,7,8,9]); kernel_rfl; kernel_rfl; rfl | refine cG ?_ | (with_reducible apply nR 3); (iterate 4 rfl); kernel_rfl; rfl | (with_reducible apply jT 3); (iterate 4 rfl); (omega); (assumption); rfl; kernel_rfl; rfl | (with_reducible apply Ag 3); (iterate 3 rfl); (assumption); kernel_rfl; rfl | (with_reducible apply Ah 3); (iterate 3 rfl); (assumption); assumption; rfl; kernel_rfl; rfl);refine ⟨s.ch.length - (I + 1), dZ b S hv fv cv s.hot [] s.ch, _, [(1000, eE E r rm s.ph (I + 1 : Nat) (0 : Nat) s.T false hv fv cv b lk)], by omega, ⟨I + 1, 0, by omega, rfl, by rw [IG, An], by omega, rfl, rfl, rfl⟩, bx.refl _, rfl, ⟨rfl, rfl, trivial⟩, ⟨rfl, trivial⟩, ?_⟩;cases lk <;> first | rfl | cases db
end
section
variable {P : Program} {a8 : eL} {bq A : Nat → Prop} {R : aI} {s : aC} {a : Act} {w : World} {ad : Nat → Nat} {c : Code} {Q : Exit → aI → aC → Prop}
theorem eD.agX {ca : Nat → Nat} (fM : ∀ i j, ca i = ca j → i = j) (h : eD a8 bq R s a w A ad) : eD a8 bq (fun i => R (ca i)) s a w A ad :=
 ⟨h.up, h.sub, h.rel, h.px, h.below, fun i r hi => h.rows (ca i) r hi, fun i j r q hi ae e0 g an => h.apart (ca i) (ca j) r q hi ae (fun e => e0 (fM i j e)) g an, fun i r g hi an => h.hot (ca i) r g hi an, h.j8⟩
theorem ahM (i j : Nat) (h : fu P c Q (fun x => R (swp i j x)) s) : fu P c Q R s := fun ok a8 bq a w ⟨A, ad, aq⟩ => h ok a8 bq a w ⟨A, ad, aq.agX fun x y e => by rw [← nv i j x, e, nv]⟩
end
theorem KB {A B ds : List AC} {off : Nat} (h : A.length = off) : eI (A ++ B) off ds = A ++ ds ++ B.drop ds.length := by
 unfold eI;rw [← h, List.take_left, List.drop_append, uZ (by omega), Nat.add_sub_cancel_left]; simp
def Lu (E : List (Int × bO)) (r rm : Nat) (s : br.aT ao) (cs : List AC) (R : aI) : Prop := ∃ (hv fv cv : Value) (b : Nat) (S : e4) (lk : AC), tP rm s.hot (eh b) S ∧ lk.aZ = true ∧ cs = eE E r rm s.ph s.I s.J s.T s.dirty hv fv cv b lk ∧ R = dZ b S hv fv cv s.hot s.fnd s.ch
def Ls (E : List (Int × bO)) (r rm : Nat) (f : FuncId) (args : List ah) (s : br.aT ao) (v : ah) (s' : br.aT ao) : Prop :=
 ∀ cs R, Lu E r rm s cs R → du ag f (sf :: args) (cZ 1000 cs) R (oX 1000 fun cb ar ay => cb = v ∧ dN E r rm s' ar ay)
section
variable {P : Program} {R : aI} {s : aC} {ops : Array Oper} {dr : Option (List Nat)} {ty : Nat} {pos : String} {after : Array Edge} {guard : Option (Nat × Bool)} {K : aI → aC → Prop} {rest : List Oper}
theorem Pe {E : List (Int × bO)} {r rm : Nat} {dV s1 : br.aT ao} {v : ah} {dst : Option Nat} {f : FuncId} {g : Operand} {aL : Array TypeId} {l : List Operand} {args : List ah} {cs : List AC} [vh : Enters ag f] (hw : want ops ⟨dst, .call ⟨.value g, l.toArray, aL⟩, ty, pos, after, guard⟩ s = some true) (hm : cY dr ⟨dst, .call ⟨.value g, l.toArray, aL⟩, ty, pos, after, guard⟩ = true)
  (an : s.look g = some (aQ (.func (.func f) #[] #[]))) (aF : l.map s.look = (sf :: args).map some) (af : s.mem 1000 = some cs) (hR : pU dr 1000 = true) (eo : args.all ah.aZ = true) (hd : lp dst s.n = true) (hp : Ls E r rm f args dV v s1) (bl : Lu E r rm dV cs R)
  (h : ∀ ar ay, dN E r rm s1 ar ay → cT ag ops dr K rest ay ((s.ej 1000 ar).put dst v)) : cT ag ops dr K (⟨dst, .call ⟨.value g, l.toArray, aL⟩, ty, pos, after, guard⟩ :: rest) R s := by
 have aj : cs.all AC.aZ = true := by
  obtain ⟨hv, fv, cv, b, S, lk, _, db, rfl, _⟩ := bl;simp only [kt, nr, db]; rfl
 refine DK 1000 hw hm an aF (hp cs R bl) af hR (bx.refl _) aj eo hd ?_;rintro _ ar ay ⟨rfl, aM⟩
 have : bX ay R = ay := by
  obtain ⟨_, _, _, _, _, _, _, _, _, rfl⟩ := bl;obtain ⟨_, _, _, _, _, _, _, _, _, _, rfl⟩ := aM;exact SX
 rw [this];exact h ar ay aM
end
section
variable {E : List (Int × bO)} {r rm : Nat}
theorem PV {s : br.aT ao} (hd : s.dirty = false) (ap : s.fnd = []) (aj : kZ s.ch) (aA : 0 < s.ch.length) : Ls E r rm 130 [] s mj (jm (et s 2 0 0)) := by
 have dW := PU (E := E) (r := r) (rm := rm) (s := et s 2 0 0) hd rfl aj aA (dJ _) rfl;obtain ⟨ph, I, J, T, dirty, hot, fnd, ch⟩ := s;obtain rfl : dirty = false := hd;obtain rfl : fnd = [] := ap;rintro cs R ⟨hv, fv, cv, b, S, lk, hS, db, rfl, rfl⟩;have dD : (eE E r rm ph I J T false hv fv cv b lk).all AC.aZ = true := by simp only [kt, nr, db]; rfl
 have aS := D2 (E := E) (k := r) (rm := rm) (ph := ph) (I := I) (J := J) (T := T) (dirty := false) (hv := hv) (fv := fv) (cv := cv) (b := b) db 2 0;refine dE (f := 130) Tryz.func130 rfl (dA rfl) (by exact ew rfl) ?_;(refine bc ?_);refine kL 1000 rfl rfl rfl rfl aS rfl rfl dD rfl rfl ?_;(refine bc ?_);refine iO rfl rfl rfl rfl rfl rfl rfl rfl dW ⟨hv, fv, cv, b, S, lk, hS, db, fun h => (by cases h), rfl, rfl⟩ (fun ar ay cr => ?_);(refine bc ?_);obtain ⟨b8, dq, df, bE, dw, ho, fU, hD, je, rfl, rfl⟩ := id cr
 ((refine eT rfl aJ rfl (bx.refl _) cr.closed rfl fm ?_))
 exact ⟨_, rfl, rfl, cr⟩
theorem PS {s : br.aT ao} (ap : s.fnd = []) (aj : kZ s.ch) (aA : 0 < s.ch.length) : gw E r rm 104 [] s mj (jn s) := by
 unfold jn
 by_cases hd : s.dirty = true
 ·rw [if_pos hd];have dW := PV (E := E) (r := r) (rm := rm) (s := { s with dirty := false }) rfl ap aj aA;obtain ⟨ph, I, J, T, dirty, hot, fnd, ch⟩ := s;obtain rfl : dirty = true := hd;obtain rfl : fnd = [] := ap;rintro cs R ⟨hv, fv, cv, b, S, lk, hS, db, gn, rfl, rfl⟩;simp only at dW ⊢;refine dE (f := 104) Tryz.func104 rfl (dA rfl) (by exact ew rfl) ?_;(refine bc ?_);refine Pe rfl rfl rfl rfl rfl rfl rfl rfl dW ⟨hv, fv, cv, b, S, .c (.slice none 0 0), hS, rfl, rfl, rfl⟩ (fun ar ay cr => ?_);(refine bc ?_);obtain ⟨b8, dq, df, bE, dw, ho, fU, hD, je, rfl, rfl⟩ := id cr
  ((refine eT rfl aJ rfl (bx.refl _) cr.closed rfl fm ?_))
  exact ⟨_, rfl, rfl, cr⟩
 ·have hd : s.dirty = false := by cases h : s.dirty <;> simp_all
  rw [if_neg (by rw [hd]; decide)];exact PT hd ap
theorem adP (p q : ao) : fj p q = (wB p q, wA p q) := by
 unfold fj wB wA; split <;> rfl
def UT (E : List (Int × bO)) (r rm : Nat) (s : br.aT ao) (hv fv cv v : Value) (b : Nat) (S : e4) (lk : AC) (fI : List (List ao × List Int)) (Z : List AC) (n : Nat) (R : aI) (aL : List (Nat × ah)) (bh : List (Nat × List AC)) : Prop :=
 ∃ (i : Nat) (ii : Int), i ≤ E.length ∧ n = E.length - i ∧ ii = i ∧ R = bI (dZ b S hv fv cv s.hot [] s.ch) 4 ⟨34, 2, v, E.length, eG (fI.take i) ++ Z.drop (2 * i)⟩ ∧ aL = [(0, sf), (2, aQ v), (11, ax E.length), (12, ax ii)] ∧ bh = [(1000, eE E r rm s.ph s.I s.J s.T false hv fv cv b lk)]
theorem PR {s : br.aT ao} (al : r ≤ 28) (fa : gJ (E.map Prod.snd) = true) (hl : E.length ≤ 300) (aA : 0 < E.length) (hd : s.dirty = false) (ap : s.fnd = []) : gw E r rm 95 [] s mj (kO (bt E r rm) s) := by
 rintro cs R ⟨hv, fv, cv, b, S, lk, hS, db, gn, rfl, rfl⟩;rw [hd, ap];have dD : (eE E r rm s.ph s.I s.J s.T false hv fv cv b lk).all AC.aZ = true := by simp only [kt, nr, db]; rfl
 obtain ⟨fI, rP⟩ : ∃ fI, fI = (List.range (bt E r rm).n).map fun k => fj ((bt E r rm).P k) ((bt E r rm).Q k) := ⟨_, rfl⟩;have aw : fI.length = E.length := by rw [rP]; simp [pB]
 have ZI : kZ fI := by
  refine ⟨by omega, fun c aj => ?_⟩;rw [rP] at aj;obtain ⟨k, _, rfl⟩ := gV.1 aj;unfold fj; split
  ·exact ⟨rfl, Nat.le_add_left 1 1099⟩
  ·exact ⟨rfl, Nat.le_add_left 2 1098⟩
 have dW := PV (E := E) (r := r) (rm := rm) (s := { s with ch := fI }) hd ap ZI (by show 0 < fI.length; omega);rw [show jm (et ({ s with ch := fI } : br.aT ao) 2 0 0) = kO (bt E r rm) s by rw [rP]; rfl] at dW
 have gQ : ∀ i o (a : bO), E[i]? = some (o, a) → fI[i]? = some (fj (ep r a.1) (ep r a.2)) := fun i o a h => by
  have hi := (bL.1 h).1;have e : (E.map Prod.snd).getD i dm = a := by rw [gF, dL, h]; rfl
  rw [rP, dL, uX (by simpa [pB] using hi)];show some (fj (ep r ((E.map Prod.snd).getD i dm).1) (ep r ((E.map Prod.snd).getD i dm).2)) = _;rw [e]
 have b7 : ∀ i o (a : bO), E[i]? = some (o, a) → gD a.1 = true ∧ gD a.2 = true := fun i o a h => by
  have := qJ fa i;rw [gF, dL, h] at this;exact this
 have Dk : (h8 E.length 2 [.slice none 0 0, .slice none 0 0]).length = 2 * E.length := by unfold h8; simp; omega
 clear rP;refine dE (f := 95) Tryz.func95 rfl (dA rfl) (by exact ew rfl) ?_;(refine bc ?_);refine Ai (l := E.length) (c' := E.length) 4 rfl rfl rfl rfl (dI _) rfl rfl ?h2 (lA (by omega)) rfl (fun v hk => ?_)
 case h2 => omega
 (refine bc ?_);generalize h8 E.length 2 [.slice none 0 0, .slice none 0 0] = Z at *;(repeat first | refine cG ?_ | (with_reducible apply nR 4); (iterate 4 rfl); kernel_rfl; rfl);refine kw 32 (UT E r rm s hv fv cv v b S lk fI Z) E.length (bI (dZ b S hv fv cv s.hot [] s.ch) 4 ⟨34, 2, v, E.length, Z⟩) _ [(1000, eE E r rm s.ph s.I s.J s.T false hv fv cv b lk)] ⟨0, 0, dJ _, rfl, rfl, rfl, rfl, rfl⟩ (bx.refl _) rfl ⟨rfl, rfl, rfl, rfl, trivial⟩ ⟨rfl, trivial⟩ ?_ ?_
 ·cases lk <;> first | rfl | cases db
 rintro n R aL bh ⟨i, ii, hi, rfl, gS, rfl, rfl, rfl⟩ c9;clear c9
 have aB : (eG (fI.take i)).length = 2 * i := by
  have := C1 (f := qg) (z := 2) (fun _ => rfl) (fI.take i);rw [ei] at this;unfold eG; rw [this]; omega
 by_cases ak : i < E.length
 ·have q2 : ii < (E.length : Int) := by omega
  have bB : 0 ≤ ii := by omega
  have cS : 0 < E.length := by omega
  obtain ⟨o, ⟨p1, p2⟩, ⟨bY, b0⟩, g1⟩ : ∃ o p q, E[i]? = some (o, p, q) := ⟨_, _, _, bN ak⟩;obtain ⟨cE, cP⟩ := b7 _ _ _ g1;have g2 := gQ _ _ _ g1;have aS := Je (E := E) (k := r) (rm := rm) (ph := s.ph) (I := s.I) (J := s.J) (T := s.T) (dirty := false) (hv := hv) (fv := fv) (cv := cv) (b := b) al rfl db (by omega) g1 cE cP;rw [← gS] at aS;have bD := ab1 (cx p1 r) (cx p2 r) (cx bY r) (cx b0 r);have aO : fj (ep r (p1, p2)) (ep r (bY, b0)) = (wB (cx p1 r, cx p2 r) (cx bY r, cx b0 r), wA (cx p1 r, cx p2 r) (cx bY r, cx b0 r)) := adP _ _;rw [aO] at g2;clear aO cE cP g1;generalize cx p1 r = a1 at *;generalize cx p2 r = a2 at *;generalize cx bY r = a3 at *;generalize cx b0 r = a4 at *;generalize wB (a1, a2) (a3, a4) = V at *;generalize wA (a1, a2) (a3, a4) = D at *;have aG : ii.toNat * 2 = 2 * i := by omega
  have Iw : ii.toNat * 2 + 2 ≤ (eG (fI.take i) ++ Z.drop (2 * i)).length := by rw [cO, aB, iC, Dk]; omega
  have cl : eI (eG (fI.take i) ++ Z.drop (2 * i)) (ii.toNat * 2) [.p (cM 2 V.length (b3 V)), .p (cM 1 D.length (cV D))] = eG (fI.take (i + 1)) ++ Z.drop (2 * (i + 1)) := by
   rw [KB (by rw [aB, aG]), qT];congr 1;have bb : i < fI.length := by omega
   rw [mM bb, show fI[i] = (V, D) from lc ((bN bb).symm.trans g2)];simp [eG, qg]
  (refine bc ?_);refine kL 1000 rfl rfl rfl rfl aS rfl rfl dD rfl rfl ?_;(repeat first | refine cG ?_ | refine iF ?_ | (with_reducible apply jT 4); (iterate 4 rfl); (omega); (assumption); rfl; kernel_rfl; rfl);refine Ak 4 rfl rfl rfl rfl cS rfl rfl Iw rfl ?_;(refine bc ?_);refine ⟨E.length - (i + 1), bI (dZ b S hv fv cv s.hot [] s.ch) 4 ⟨34, 2, v, E.length, eG (fI.take (i + 1)) ++ Z.drop (2 * (i + 1))⟩, _, [(1000, eE E r rm s.ph s.I s.J s.T false hv fv cv b lk)], by omega, ⟨i + 1, ii + 1, by omega, rfl, by omega, rfl, rfl, rfl⟩, fun k q af => ?_, rfl, ⟨rfl, rfl, rfl, rfl, trivial⟩, ⟨rfl, trivial⟩, ?_⟩
  ·rw [← cl] at af
   by_cases ik : k = 4
   ·subst ik; exact af
   ·rw [ct _ _ ik] at af ⊢;rw [ct _ _ ik]; exact af
  ·cases lk <;> first | rfl | cases db
 ·have q2 : ¬ ii < (E.length : Int) := by omega
  have dh : fI.take i = fI := h4 (by omega);have aG : Z.drop (2 * i) = [] := List.drop_eq_nil_of_le (by omega);rw [dh, aG, me];refine ahM 3 4 ?_;refine Fx (dZ b S hv fv v s.hot [] fI) (fun k q af => ?_) ?_
  ·match k with
   | 0 => exact af
   | 1 => exact af
   | 2 => exact af
   | 3 => rw [← aw]; exact af
   | k + 4 => cases af
  (refine bc ?_);refine Pe rfl rfl rfl rfl rfl rfl rfl rfl dW ⟨hv, fv, v, b, S, lk, hS, db, by rw [hd], by rw [ap]⟩ (fun ar ay cr => ?_);(refine bc ?_);obtain ⟨b8, dq, df, bE, dw, ho, fU, hD, je, rfl, rfl⟩ := id cr
  ((refine eT rfl aJ rfl (bx.refl _) cr.closed rfl fm ?_))
  exact ⟨_, rfl, rfl, cr⟩
end
section
variable {E : List (Int × bO)} {r rm : Nat}
theorem CA {n : Nat} (h : n ≠ 5) : Nat.beq n 5 = false := by
 cases aM : Nat.beq n 5 with
 | false => rfl
 | true => exact absurd (gL aM) h
theorem Ds {o : cw ao} {s : br.aT ao} {q : ao} (h : s.fnd = []) : (cI o s q).fnd = [] := by
 unfold cI; split
 ·exact h
 ·split
  ·exact h
  ·rfl
theorem Dr {o : cw ao} {s : br.aT ao} {q : ao} : (cI o s q).dirty = s.dirty ∧ (cI o s q).ch = s.ch ∧ (cI o s q).hot.length ≤ s.hot.length + 1 := by
 unfold cI; split
 ·exact ⟨rfl, rfl, Nat.le_succ _⟩
 ·split
  ·exact ⟨rfl, rfl, by simp⟩
  ·exact ⟨rfl, rfl, Nat.le_succ _⟩
theorem Dv {o : cw ao} {s : br.aT ao} {q : ao} (h : (cI o s q).ph ≠ 5) : (cI o s q).ph = s.ph ∧ (cI o s q).I = s.I ∧ (cI o s q).J = s.J ∧ (cI o s q).T = s.T := by
 revert h
 unfold cI; split
 ·exact fun _ => ⟨rfl, rfl, rfl, rfl⟩
 ·split
  ·exact fun _ => ⟨rfl, rfl, rfl, rfl⟩
  ·exact fun h => absurd rfl h
theorem ack {s : br.aT ao} (al : r ≤ 28) (fa : gJ (E.map Prod.snd) = true) (hl : E.length ≤ 300) (aA : 0 < E.length) (hd : s.dirty = false) (ap : s.fnd = []) : gw E r rm 91 [] s mj (if E.length < 2 then kO (bt E r rm) s else et s 1 0 1) := by
 have dW := PR (E := E) (r := r) (rm := rm) (s := et s 1 0 1) al fa hl aA hd rfl;rw [show kO (bt E r rm) (et s 1 0 1) = kO (bt E r rm) s from rfl] at dW;obtain ⟨ph, I, J, T, dirty, hot, fnd, ch⟩ := s;obtain rfl : dirty = false := hd;obtain rfl : fnd = [] := ap;rintro cs R ⟨hv, fv, cv, b, S, lk, hS, db, gn, rfl, rfl⟩;have dD : (eE E r rm ph I J T false hv fv cv b lk).all AC.aZ = true := by simp only [kt, nr, db]; rfl
 have Zu : (eE E r rm 1 0 1 0 false hv fv cv b lk).all AC.aZ = true := by simp only [kt, nr, db]; rfl
 have aS := D2 (E := E) (k := r) (rm := rm) (ph := ph) (I := I) (J := J) (T := T) (dirty := false) (hv := hv) (fv := fv) (cv := cv) (b := b) db 1 1
 by_cases h2 : E.length < 2
 ·rw [if_pos h2];have sM : (1 : Int) ≥ (E.length : Int) := by omega
  refine dE (f := 91) Tryz.func91 rfl (dA rfl) (by exact ew rfl) ?_;(refine bc ?_);refine kL 1000 rfl rfl rfl rfl aS rfl rfl dD rfl rfl ?_;(repeat first | (with_reducible apply dl (id := 1) [0,1,2,3,4,5,6,7,8,9,10]); kernel_rfl; kernel_rfl; rfl | refine cG ?_);refine iO rfl rfl rfl rfl rfl rfl rfl rfl dW ⟨hv, fv, cv, b, S, lk, hS, db, fun h => (by cases h), rfl, rfl⟩ (fun ar ay cr => ?_);(refine bc ?_);obtain ⟨b8, dq, df, bE, dw, ho, fU, hD, je, rfl, rfl⟩ := id cr
  ((refine eT rfl aJ rfl (bx.refl _) cr.closed rfl fm ?_))
  exact ⟨_, rfl, rfl, cr⟩
 ·rw [if_neg h2];have sM : ¬ (1 : Int) ≥ (E.length : Int) := by omega
  refine dE (f := 91) Tryz.func91 rfl (dA rfl) (by exact ew rfl) ?_;(refine bc ?_);refine kL 1000 rfl rfl rfl rfl aS rfl rfl dD rfl rfl ?_;(repeat first | (with_reducible apply dl (id := 1) [0,1,2,3,4,5,6,7,8,9,10]); kernel_rfl; kernel_rfl; rfl | refine cG ?_)
  ((refine eT rfl aJ rfl (bx.refl _) Zu rfl fm ?_))
  exact ⟨_, rfl, rfl, hv, fv, cv, b, S, lk, hS, db, fun h => (by cases h), rfl, rfl⟩
theorem He {i : Nat} {o : Int} {a : bO} (h : E[i]? = some (o, a)) : (E.map Prod.snd).getD i dm = a := by rw [gF, dL, h]; rfl
theorem acf {s : br.aT ao} (al : r ≤ 28) (fa : gJ (E.map Prod.snd) = true) (hl : E.length ≤ 300) (bl : s.I < E.length) (hd : s.dirty = false) (ap : s.fnd = []) (aR : s.hot.length ≤ 1024) (gT : s.ph = 0) : gw E r rm 54 [] s mj (ou (bt E r rm) s) := by
 obtain ⟨o, ⟨p1, p2⟩, ⟨bY, b0⟩, g1⟩ : ∃ o p q, E[s.I]? = some (o, p, q) := ⟨_, _, _, bN bl⟩;have ih := He g1;have aw := qJ fa s.I;rw [ih] at aw;have X9 : (bt E r rm).P s.I = (cx p1 r, cx p2 r) := by show ep r ((E.map Prod.snd).getD s.I dm).1 = _; rw [ih]; rfl
 have Ya : (bt E r rm).Q s.I = (cx bY r, cx b0 r) := by show ep r ((E.map Prod.snd).getD s.I dm).2 = _; rw [ih]; rfl
 have CS : (bt E r rm).n = E.length := iD ..;have H1 := Jf (E := E) (r := r) (rm := rm) (s := s) (x := cx p1 r) (y := cx p2 r) (by omega) ap (by omega);unfold ou;rw [X9, Ya, CS];have sQ := Dr (o := bt E r rm) (s := s) (q := (cx p1 r, cx p2 r));have xM := Ds (o := bt E r rm) (q := (cx p1 r, cx p2 r)) ap;have pj := Dv (o := bt E r rm) (s := s) (q := (cx p1 r, cx p2 r));generalize ux : cI (bt E r rm) s (cx p1 r, cx p2 r) = s1 at *
 by_cases q1 : s1.ph = 5
 ·rw [if_pos q1];rw [q1] at H1;rintro cs R kc;obtain ⟨hv, fv, cv, b, S, lk, hS, db, gn, rfl, rfl⟩ := id kc;have dD := kc.closed;have aS := Je (E := E) (k := r) (rm := rm) (ph := s.ph) (I := s.I) (J := s.J) (T := s.T) (dirty := s.dirty) (hv := hv) (fv := fv) (cv := cv) (b := b) al rfl db (by omega) g1 aw.1 aw.2;clear ux;generalize cx p1 r = a1 at *;generalize cx p2 r = a2 at *;generalize cx bY r = a3 at *;generalize cx b0 r = a4 at *;refine dE (f := 54) Tryz.func54 rfl (dA rfl) (by exact ew rfl) ?_;(refine bc ?_);refine kL 1000 rfl rfl rfl rfl aS rfl rfl dD rfl rfl ?_;(refine bc ?_);refine iO rfl rfl rfl rfl rfl rfl rfl rfl H1 kc (fun ar ay cr => ?_);(refine bc ?_);obtain ⟨b8, dq, df, bE, dw, ho, fU, hD, je, rfl, rfl⟩ := id cr
  ((refine eT rfl aJ rfl (bx.refl _) cr.closed rfl fm ?_))
  exact ⟨_, rfl, rfl, cr⟩
 ·rw [if_neg q1];obtain ⟨m1, m2, m3, m4⟩ := pj q1;rw [CA q1] at H1;have dd := Jf (E := E) (r := r) (rm := rm) (s := s1) (x := cx bY r) (y := cx b0 r) (by omega) xM q1;have xL := Dr (o := bt E r rm) (s := s1) (q := (cx bY r, cx b0 r));have ZZ := Ds (o := bt E r rm) (q := (cx bY r, cx b0 r)) xM;have Is := Dv (o := bt E r rm) (s := s1) (q := (cx bY r, cx b0 r));generalize aaU : cI (bt E r rm) s1 (cx bY r, cx b0 r) = s2 at *;have en := ack (E := E) (r := r) (rm := rm) (s := { s2 with I := s2.I + 1 }) al fa hl (by omega) (by show s2.dirty = false; rw [xL.1, sQ.1]; exact hd) ZZ;rw [show kO (bt E r rm) { s2 with I := s2.I + 1 } = kO (bt E r rm) s2 from rfl, show et ({ s2 with I := s2.I + 1 } : br.aT ao) 1 0 1 = et s2 1 0 1 from rfl] at en;rintro cs R kc;obtain ⟨hv, fv, cv, b, S, lk, hS, db, gn, rfl, rfl⟩ := id kc;have dD := kc.closed;have aS := Je (E := E) (k := r) (rm := rm) (ph := s.ph) (I := s.I) (J := s.J) (T := s.T) (dirty := s.dirty) (hv := hv) (fv := fv) (cv := cv) (b := b) al rfl db (by omega) g1 aw.1 aw.2;clear ux aaU
  by_cases q2 : s2.ph = 5
  ·rw [if_pos q2];rw [q2] at dd;clear en;generalize cx p1 r = a1 at *;generalize cx p2 r = a2 at *;generalize cx bY r = a3 at *;generalize cx b0 r = a4 at *;refine dE (f := 54) Tryz.func54 rfl (dA rfl) (by exact ew rfl) ?_;(refine bc ?_);refine kL 1000 rfl rfl rfl rfl aS rfl rfl dD rfl rfl ?_;(refine bc ?_);refine iO rfl rfl rfl rfl rfl rfl rfl rfl H1 kc (fun ar ay cr => ?_);(refine bc ?_);refine iO rfl rfl rfl rfl rfl rfl rfl rfl dd cr (fun ar ay cr => ?_);(refine bc ?_);obtain ⟨b8, dq, df, bE, dw, ho, fU, hD, je, rfl, rfl⟩ := id cr
   ((refine eT rfl aJ rfl (bx.refl _) cr.closed rfl fm ?_))
   exact ⟨_, rfl, rfl, cr⟩
  ·rw [if_neg q2];rw [CA q2] at dd;obtain ⟨m5, m6, m7, m8⟩ := Is q2;have X8 : s.I = s2.I := by omega
   generalize cx p1 r = a1 at *;generalize cx p2 r = a2 at *;generalize cx bY r = a3 at *;generalize cx b0 r = a4 at *
   by_cases bB : s.I + 1 < E.length
   ·rw [if_pos bB, show ({ s2 with I := s.I + 1 } : br.aT ao) = { s2 with I := s2.I + 1 } by rw [X8]];have agz : ¬ (s2.I : Int) + 1 = (E.length : Int) := by omega
    refine dE (f := 54) Tryz.func54 rfl (dA rfl) (by exact ew rfl) ?_;(refine bc ?_);refine kL 1000 rfl rfl rfl rfl aS rfl rfl dD rfl rfl ?_;(refine bc ?_);refine iO rfl rfl rfl rfl rfl rfl rfl rfl H1 kc (fun ar ay cr => ?_);(refine bc ?_);refine iO rfl rfl rfl rfl rfl rfl rfl rfl dd cr (fun ar ay HJ => ?_);clear cr;obtain ⟨b8, dq, df, bE, dw, ho, fU, hD, je, rfl, rfl⟩ := id HJ;have fL : dN E r rm { s2 with I := s2.I + 1 } (eE E r rm s2.ph ((s2.I : Int) + 1) s2.J s2.T s2.dirty b8 dq df bE ho) (dZ bE dw b8 dq df s2.hot s2.fnd s2.ch) := ⟨b8, dq, df, bE, dw, ho, fU, hD, je, rfl, rfl⟩;(repeat first | (with_reducible apply dl (id := 3) [0,1,2,3,4,5,6,7,8,9,10]); kernel_rfl; kernel_rfl; rfl | refine cG ?_)
    ((refine eT rfl aJ rfl (bx.refl _) fL.closed rfl fm ?_))
    exact ⟨_, rfl, rfl, fL⟩
   ·rw [if_neg bB];have agz : (s2.I : Int) + 1 = (E.length : Int) := by omega
    refine dE (f := 54) Tryz.func54 rfl (dA rfl) (by exact ew rfl) ?_;(refine bc ?_);refine kL 1000 rfl rfl rfl rfl aS rfl rfl dD rfl rfl ?_;(refine bc ?_);refine iO rfl rfl rfl rfl rfl rfl rfl rfl H1 kc (fun ar ay cr => ?_);(refine bc ?_);refine iO rfl rfl rfl rfl rfl rfl rfl rfl dd cr (fun ar ay HJ => ?_);clear cr;obtain ⟨b8, dq, df, bE, dw, ho, fU, hD, je, rfl, rfl⟩ := id HJ;have fL : dN E r rm { s2 with I := s2.I + 1 } (eE E r rm s2.ph ((s2.I : Int) + 1) s2.J s2.T s2.dirty b8 dq df bE ho) (dZ bE dw b8 dq df s2.hot s2.fnd s2.ch) := ⟨b8, dq, df, bE, dw, ho, fU, hD, je, rfl, rfl⟩;(repeat first | (with_reducible apply dl (id := 3) [0,1,2,3,4,5,6,7,8,9,10]); kernel_rfl; kernel_rfl; rfl | refine cG ?_);refine iO rfl rfl rfl rfl rfl rfl rfl rfl en fL (fun ar ay lY => ?_);(refine bc ?_);obtain ⟨x1, C3, CL, dO, y1, Ec, Dj, DC, DB, rfl, rfl⟩ := id lY
    ((refine eT rfl aJ rfl (bx.refl _) lY.closed rfl fm ?_))
    exact ⟨_, rfl, rfl, lY⟩
end
section
variable {E : List (Int × bO)} {r rm : Nat}
theorem ZS {o : cw ao} {s : br.aT ao} {q : Option ao} (h : s.fnd = []) : (ir o s q).fnd = [] := by
 cases q with
 | none => exact h
 | some x => exact Ds h
theorem ZU {o : cw ao} {s : br.aT ao} {q : Option ao} : (ir o s q).dirty = s.dirty ∧ (ir o s q).ch = s.ch ∧ (ir o s q).hot.length ≤ s.hot.length + 1 := by
 cases q with
 | none => exact ⟨rfl, rfl, Nat.le_succ _⟩
 | some x => exact Dr
theorem ZT {o : cw ao} {s : br.aT ao} {q : Option ao} (h : (ir o s q).ph ≠ 5) : (ir o s q).ph = s.ph ∧ (ir o s q).I = s.I ∧ (ir o s q).J = s.J ∧ (ir o s q).T = s.T := by
 cases q with
 | none => exact ⟨rfl, rfl, rfl, rfl⟩
 | some x => exact Dv h
theorem uK {p : ao} (h : gD p = true) : bu p.1 p.2 = true := by
 have h := qK.1 h;unfold bu; simp only [c6, cg]; omega
theorem QC {a b : bO} (h1 : bu a.1.1 a.1.2 = true) (h2 : bu a.2.1 a.2.2 = true) (h3 : bu b.1.1 b.1.2 = true) (aD : bu b.2.1 b.2.2 = true) : B0 (gC a b) := by
 rw [← Eg h1 h2 h3 aD]; exact ac2 ..
theorem Q8 {n I J : Nat} (h : J < n) : ((bT n I J).1 : Int) = (if (J : Int) + 1 = (n : Int) then (I : Int) + 1 else I) ∧ ((bT n I J).2 : Int) = (if (J : Int) + 1 = (n : Int) then (I : Int) + 2 else (J : Int) + 1) ∧ (decide ((if (J : Int) + 1 = (n : Int) then (I : Int) + 2 else (J : Int) + 1) < (n : Int)) = decide ((bT n I J).2 < n)) := by
 unfold bT
 by_cases h1 : n ≤ J + 1
 ·have : (J : Int) + 1 = (n : Int) := by omega
  rw [if_pos h1, if_pos this, if_pos this];refine ⟨by simp, by simp, ?_⟩;rw [decide_eq_decide]; simp only; omega
 ·have : ¬ (J : Int) + 1 = (n : Int) := by omega
  rw [if_neg h1, if_neg this, if_neg this];refine ⟨by simp, by simp, ?_⟩;rw [decide_eq_decide]; simp only; omega
theorem ach {s : br.aT ao} (al : r ≤ 28) (fa : gJ (E.map Prod.snd) = true) (hl : E.length ≤ 300) (ox : s.I < s.J) (im : s.J < E.length) (hd : s.dirty = false) (ap : s.fnd = []) (aR : s.hot.length ≤ 1024) (gT : s.ph = 1) : gw E r rm 55 [] s mj (oF (bt E r rm) s) := by
 obtain ⟨o, ⟨p1, p2⟩, ⟨bY, b0⟩, g1⟩ : ∃ o p q, E[s.I]? = some (o, p, q) := ⟨_, _, _, bN (by omega)⟩;obtain ⟨bU, ⟨v1, v2⟩, ⟨w1, w2⟩, g2⟩ : ∃ o p q, E[s.J]? = some (o, p, q) := ⟨_, _, _, bN im⟩;have ih := He g1;have lq := He g2;have aw := qJ fa s.I;have hm := qJ fa s.J;rw [ih] at aw;rw [lq] at hm;have CS : (bt E r rm).n = E.length := iD ..
 have NA : (bt E r rm).iy s.I s.J = mJ r (gC ((p1, p2), (bY, b0)) ((v1, v2), (w1, w2))) := by
  show wN r ((E.map Prod.snd).getD s.I dm) ((E.map Prod.snd).getD s.J dm) = _;rw [ih, lq]; rfl
 have aS := JR (a1 := p1) (a2 := p2) (b1 := bY) (b2 := b0) (c1 := v1) (c2 := v2) (d1 := w1) (d2 := w2);rw [show lC p1 p2 bY b0 v1 v2 w1 w2 = gC ((p1, p2), (bY, b0)) ((v1, v2), (w1, w2)) from Eg (a := ((p1, p2), (bY, b0))) (b := ((v1, v2), (w1, w2))) (uK aw.1) (uK aw.2) (uK hm.1) (uK hm.2)] at aS;have H1 := PQ (E := E) (r := r) (rm := rm) (s := s) al (QC (a := ((p1, p2), (bY, b0))) (b := ((v1, v2), (w1, w2))) (uK aw.1) (uK aw.2) (uK hm.1) (uK hm.2)) (fun af => Si al (a := ((p1, p2), (bY, b0))) (b := ((v1, v2), (w1, w2))) aw.1 aw.2 (by unfold wN; rw [if_pos af])) (by omega) ap (by omega);unfold oF;rw [NA, CS];have sQ := ZU (o := bt E r rm) (s := s) (q := mJ r (gC ((p1, p2), (bY, b0)) ((v1, v2), (w1, w2))));have xM := ZS (o := bt E r rm) (q := mJ r (gC ((p1, p2), (bY, b0)) ((v1, v2), (w1, w2)))) ap;have pj := ZT (o := bt E r rm) (s := s) (q := mJ r (gC ((p1, p2), (bY, b0)) ((v1, v2), (w1, w2))));generalize ir (bt E r rm) s (mJ r (gC ((p1, p2), (bY, b0)) ((v1, v2), (w1, w2)))) = s1 at *;generalize gC ((p1, p2), (bY, b0)) ((v1, v2), (w1, w2)) = M at *;have mR := sI (ii := (s.I : Int)) rfl g1;have sn := sI (ii := (s.J : Int)) rfl g2;have i0 : (0 : Int) ≤ (s.I : Int) := by omega
 have i1 : (s.I : Int) < (E.length : Int) := by omega
 have I5 : (0 : Int) ≤ (s.J : Int) := by omega
 have rT : (s.J : Int) < (E.length : Int) := by omega
 rintro cs R kc;obtain ⟨hv, fv, cv, b, S, lk, hS, db, gn, rfl, rfl⟩ := id kc;clear NA ih lq aw hm CS
 by_cases q1 : s1.ph = 5
 ·rw [if_pos q1];rw [q1] at H1;refine dE (f := 55) Tryz.func55 rfl (dA rfl) (by exact ew rfl) ?_;(repeat first | (with_reducible apply dl (id := 0) [22,23,0,1,2,3,4,5,6,7,8,9,10,11,12,13,14,15,16,17,18,19,20,21,24,25]); kernel_rfl; kernel_rfl; rfl | refine cG ?_ | refine iF ?_);refine iO rfl rfl rfl rfl rfl rfl rfl rfl H1 kc (fun ar ay cr => ?_);(refine bc ?_);obtain ⟨b8, dq, df, bE, dw, ho, fU, hD, je, rfl, rfl⟩ := id cr
  ((refine eT rfl aJ rfl (bx.refl _) cr.closed rfl fm ?_))
  exact ⟨_, rfl, rfl, cr⟩
 ·rw [if_neg q1];rw [CA q1] at H1;obtain ⟨m1, m2, m3, m4⟩ := pj q1;have kg := Q8 (n := E.length) (I := s1.I) (J := s1.J) (by omega);rw [← m2, ← m3];have en := PR (E := E) (r := r) (rm := rm) (s := { s1 with I := (bT E.length s1.I s1.J).1, J := (bT E.length s1.I s1.J).2 }) al fa hl (by omega) (by show s1.dirty = false; rw [sQ.1]; exact hd) xM;rw [show kO (bt E r rm) { s1 with I := (bT E.length s1.I s1.J).1, J := (bT E.length s1.I s1.J).2 } = kO (bt E r rm) s1 from rfl] at en
  by_cases q2 : (bT E.length s1.I s1.J).2 < E.length
  ·rw [if_pos q2];have hE := kg.2.2;rw [cd q2] at hE;rw [m2, m3];refine dE (f := 55) Tryz.func55 rfl (dA rfl) (by exact ew rfl) ?_;(repeat first | (with_reducible apply dl (id := 0) [22,23,0,1,2,3,4,5,6,7,8,9,10,11,12,13,14,15,16,17,18,19,20,21,24,25]); kernel_rfl; kernel_rfl; rfl | refine cG ?_ | refine iF ?_);refine iO rfl rfl rfl rfl rfl rfl rfl rfl H1 kc (fun ar ay cr => ?_);obtain ⟨b8, dq, df, bE, dw, ho, fU, hD, je, rfl, rfl⟩ := id cr;have bD := AE (E := E) (k := r) (rm := rm) (ph := s1.ph) (I := s1.I) (J := s1.J) (T := s1.T) (dirty := s1.dirty) (hv := b8) (fv := dq) (cv := df) (b := bE) hD E.length (by omega) (by omega);rw [hE, ← kg.1, ← kg.2.1] at bD;have fL : dN E r rm { s1 with I := (bT E.length s1.I s1.J).1, J := (bT E.length s1.I s1.J).2 } (eE E r rm s1.ph (bT E.length s1.I s1.J).1 (bT E.length s1.I s1.J).2 s1.T s1.dirty b8 dq df bE ho) (dZ bE dw b8 dq df s1.hot s1.fnd s1.ch) := ⟨b8, dq, df, bE, dw, ho, fU, hD, je, rfl, rfl⟩;(refine bc ?_);refine kL 1000 rfl rfl rfl rfl bD rfl rfl cr.closed rfl rfl ?_;(refine bc ?_)
   ((refine eT rfl aJ rfl (bx.refl _) fL.closed rfl fm ?_))
   refine ⟨_, rfl, rfl, ?_⟩;rw [← m2, ← m3];exact fL
  ·rw [if_neg q2];have hE := kg.2.2;rw [cA q2] at hE;rw [m2, m3];refine dE (f := 55) Tryz.func55 rfl (dA rfl) (by exact ew rfl) ?_;(repeat first | (with_reducible apply dl (id := 0) [22,23,0,1,2,3,4,5,6,7,8,9,10,11,12,13,14,15,16,17,18,19,20,21,24,25]); kernel_rfl; kernel_rfl; rfl | refine cG ?_ | refine iF ?_);refine iO rfl rfl rfl rfl rfl rfl rfl rfl H1 kc (fun ar ay cr => ?_);obtain ⟨b8, dq, df, bE, dw, ho, fU, hD, je, rfl, rfl⟩ := id cr;have bD := AE (E := E) (k := r) (rm := rm) (ph := s1.ph) (I := s1.I) (J := s1.J) (T := s1.T) (dirty := s1.dirty) (hv := b8) (fv := dq) (cv := df) (b := bE) hD E.length (by omega) (by omega);rw [hE, ← kg.1, ← kg.2.1] at bD;have fL : dN E r rm { s1 with I := (bT E.length s1.I s1.J).1, J := (bT E.length s1.I s1.J).2 } (eE E r rm s1.ph (bT E.length s1.I s1.J).1 (bT E.length s1.I s1.J).2 s1.T s1.dirty b8 dq df bE ho) (dZ bE dw b8 dq df s1.hot s1.fnd s1.ch) := ⟨b8, dq, df, bE, dw, ho, fU, hD, je, rfl, rfl⟩;(refine bc ?_);refine kL 1000 rfl rfl rfl rfl bD rfl rfl cr.closed rfl rfl ?_;(refine bc ?_);refine iO rfl rfl rfl rfl rfl rfl rfl rfl en fL (fun ar ay lY => ?_);(refine bc ?_);obtain ⟨x1, C3, CL, dO, y1, Ec, Dj, DC, DB, rfl, rfl⟩ := id lY
   ((refine eT rfl aJ rfl (bx.refl _) lY.closed rfl fm ?_))
   exact ⟨_, rfl, rfl, lY⟩
end
section
variable {E : List (Int × bO)} {r rm : Nat}
theorem Xs {r : Nat} {l m : ao × ao} (h1 : eA r l.1.1 l.1.2 = true) (h2 : eA r l.2.1 l.2.2 = true) (h3 : eA r m.1.1 m.1.2 = true) (aD : eA r m.2.1 m.2.2 = true) : B0 (o7 r l m) := by
 unfold o7
 split
 ·exact .inl rfl
 ·exact QC (rF h1) (rF h2) (rF h3) (rF aD)
theorem acg {s : br.aT ao} (al : r ≤ 28) (aj : kZ s.ch) (aA : 0 < s.ch.length) (ox : s.I < s.J) (im : s.J < (aP s.ch).length) (an : ∀ l ∈ aP s.ch, eA r l.1.1 l.1.2 = true ∧ eA r l.2.1 l.2.2 = true) (ap : s.fnd = []) (aR : s.hot.length ≤ 1024) (gT : s.ph = 3) : gw E r rm 57 [] s mj (nX (bt E r rm) s) := by
 have xI : (aP s.ch).length ≤ 300 * 1100 := ht (Ee (m := 1100) fun c h => (aj.2 c h).2) (kT _ aj.1);obtain ⟨a1, a2, a3, a4, g1⟩ : ∃ a b c d, (aP s.ch)[s.I]? = some ((a, b), (c, d)) := ⟨_, _, _, _, bN (by omega)⟩;obtain ⟨b1, b2, ee, dO, g2⟩ : ∃ a b c d, (aP s.ch)[s.J]? = some ((a, b), (c, d)) := ⟨_, _, _, _, bN im⟩;obtain ⟨e2, z2⟩ := an _ (dc g1);obtain ⟨z3, z4⟩ := an _ (dc g2);have aS := afe al (l := ((a1, a2), (a3, a4))) (m := ((b1, b2), (ee, dO))) e2 z2 z3 z4;have fT := Xs (l := ((a1, a2), (a3, a4))) (m := ((b1, b2), (ee, dO))) e2 z2 z3 z4;have hcut : (bt E r rm).cut ((a1, a2), (a3, a4)) ((b1, b2), (ee, dO)) = mJ r (o7 r ((a1, a2), (a3, a4)) ((b1, b2), (ee, dO))) := Na r _ _;have H1 := PQ (E := E) (r := r) (rm := rm) (s := s) al fT (fun af => Nb (l := ((a1, a2), (a3, a4))) (m := ((b1, b2), (ee, dO))) e2 z2 (by rw [Na, if_pos af])) (by omega) ap (by omega);have mR := P8 (ii := (s.I : Int)) rfl g1;have sn := P8 (ii := (s.J : Int)) rfl g2
 have em : nX (bt E r rm) s = if (br.cY (bt E r rm) s (mJ r (o7 r ((a1, a2), (a3, a4)) ((b1, b2), (ee, dO))))).ph = 5 then br.cY (bt E r rm) s (mJ r (o7 r ((a1, a2), (a3, a4)) ((b1, b2), (ee, dO)))) else
   if (bT (aP s.ch).length s.I s.J).2 < (aP s.ch).length then { br.cY (bt E r rm) s (mJ r (o7 r ((a1, a2), (a3, a4)) ((b1, b2), (ee, dO)))) with I := (bT (aP s.ch).length s.I s.J).1, J := (bT (aP s.ch).length s.I s.J).2 } else jn (br.cY (bt E r rm) s (mJ r (o7 r ((a1, a2), (a3, a4)) ((b1, b2), (ee, dO))))) := by
  unfold nX;simp only [g1, g2, hcut]
 rw [em];clear em hcut fT e2 z2 z3 z4 g1 g2;simp only at aS H1;generalize o7 r ((a1, a2), (a3, a4)) ((b1, b2), (ee, dO)) = M at *;have kg := Q8 (n := (aP s.ch).length) (I := s.I) (J := s.J) im;have i0 : (0 : Int) ≤ (s.I : Int) := by omega
 have i1 : (s.I : Int) < ((aP s.ch).length : Int) := by omega
 have I5 : (0 : Int) ≤ (s.J : Int) := by omega
 have rT : (s.J : Int) < ((aP s.ch).length : Int) := by omega
 rintro cs R kc;obtain ⟨hv, fv, cv, b, S, lk, hS, db, gn, rfl, rfl⟩ := id kc;obtain rfl := gn gT
 by_cases af : M.k = 1
 ·have qn : mJ r M = some (iS r M) := if_pos af;rw [qn] at H1 ⊢;have sQ := Dr (o := bt E r rm) (s := s) (q := iS r M);have xM := Ds (o := bt E r rm) (q := iS r M) ap;have pj := Dv (o := bt E r rm) (s := s) (q := iS r M);unfold br.cY;simp only [ir] at H1 ⊢;generalize cI (bt E r rm) s (iS r M) = s1 at *
  by_cases q1 : s1.ph = 5
  ·rw [if_pos q1, if_pos q1];rw [q1] at H1;obtain ⟨mk, Jt, md, dz, Jn, Ju, Jv, Jw, Jx⟩ := M;obtain rfl : mk = 1 := af;refine dE (f := 57) Tryz.func57 rfl (dA rfl) (by exact ew rfl) ?_;(repeat first | (with_reducible apply dl (id := 1) [20,21,0,1,2,3,4,5,6,7,8,9,10,11,12,13,14,15,16,17,18,19,22,23]); kernel_rfl; kernel_rfl; rfl | (with_reducible apply dl (id := 2) [7,0,1,2,3,4,5,6,8]); kernel_rfl; kernel_rfl; rfl | refine cG ?_ | refine iF ?_);refine iO rfl rfl rfl rfl rfl rfl rfl rfl H1 kc (fun ar ay cr => ?_);(refine bc ?_);obtain ⟨b8, dq, df, bE, dw, ho, fU, hD, je, rfl, rfl⟩ := id cr
   ((refine eT rfl aJ rfl (bx.refl _) cr.closed rfl fm ?_))
   exact ⟨_, rfl, rfl, cr⟩
  ·rw [if_neg q1, if_neg q1];rw [CA q1] at H1;obtain ⟨m1, m2, m3, m4⟩ := pj q1;have tY : s1.ch = s.ch := sQ.2.1;have en := PS (E := E) (r := r) (rm := rm) (s := { s1 with dirty := true, I := (bT (aP s.ch).length s.I s.J).1, J := (bT (aP s.ch).length s.I s.J).2 }) xM (by show kZ s1.ch; rw [tY]; exact aj) (by show 0 < s1.ch.length; rw [tY]; exact aA);rw [show jn ({ s1 with dirty := true, I := (bT (aP s.ch).length s.I s.J).1, J := (bT (aP s.ch).length s.I s.J).2 } : br.aT ao) = jn ({ s1 with dirty := true } : br.aT ao) from rfl] at en;have oA : (s1.I : Int) = s.I := by omega
   have DF : (s1.J : Int) = s.J := by omega
   obtain ⟨mk, Jt, md, dz, Jn, Ju, Jv, Jw, Jx⟩ := M;obtain rfl : mk = 1 := af
   by_cases q2 : (bT (aP s.ch).length s.I s.J).2 < (aP s.ch).length
   ·rw [if_pos q2];have hE := kg.2.2;rw [cd q2] at hE;refine dE (f := 57) Tryz.func57 rfl (dA rfl) (by exact ew rfl) ?_;(repeat first | (with_reducible apply dl (id := 1) [20,21,0,1,2,3,4,5,6,7,8,9,10,11,12,13,14,15,16,17,18,19,22,23]); kernel_rfl; kernel_rfl; rfl | (with_reducible apply dl (id := 2) [7,0,1,2,3,4,5,6,8]); kernel_rfl; kernel_rfl; rfl | refine cG ?_ | refine iF ?_);refine iO rfl rfl rfl rfl rfl rfl rfl rfl H1 kc (fun ar ay cr => ?_);obtain ⟨b8, dq, df, bE, dw, ho, fU, hD, je, rfl, rfl⟩ := id cr;obtain rfl := je (by omega);have bD := AE (E := E) (k := r) (rm := rm) (ph := s1.ph) (I := s1.I) (J := s1.J) (T := s1.T) (dirty := true) (hv := b8) (fv := dq) (cv := df) (b := bE) hD (aP s1.ch).length (by omega) (by omega);rw [tY, oA, DF, hE, ← kg.1, ← kg.2.1] at bD;have fL : dN E r rm { s1 with dirty := true, I := (bT (aP s.ch).length s.I s.J).1, J := (bT (aP s.ch).length s.I s.J).2 } (eE E r rm s1.ph (bT (aP s.ch).length s.I s.J).1 (bT (aP s.ch).length s.I s.J).2 s1.T true b8 dq df bE (.p (cM 4 (aP s1.ch).length (ni (aP s1.ch))))) (dZ bE dw b8 dq df s1.hot s1.fnd s1.ch) := ⟨b8, dq, df, bE, dw, _, fU, rfl, fun _ => rfl, rfl, rfl⟩;rw [tY] at fL;rw [oA, DF, tY];(refine bc ?_);refine kL 1000 rfl rfl rfl rfl bD rfl rfl rfl rfl rfl ?_;(refine bc ?_)
    ((refine eT rfl aJ rfl (bx.refl _) fL.closed rfl fm ?_))
    exact ⟨_, rfl, rfl, fL⟩
   ·rw [if_neg q2];have hE := kg.2.2;rw [cA q2] at hE;refine dE (f := 57) Tryz.func57 rfl (dA rfl) (by exact ew rfl) ?_;(repeat first | (with_reducible apply dl (id := 1) [20,21,0,1,2,3,4,5,6,7,8,9,10,11,12,13,14,15,16,17,18,19,22,23]); kernel_rfl; kernel_rfl; rfl | (with_reducible apply dl (id := 2) [7,0,1,2,3,4,5,6,8]); kernel_rfl; kernel_rfl; rfl | refine cG ?_ | refine iF ?_);refine iO rfl rfl rfl rfl rfl rfl rfl rfl H1 kc (fun ar ay cr => ?_);obtain ⟨b8, dq, df, bE, dw, ho, fU, hD, je, rfl, rfl⟩ := id cr;obtain rfl := je (by omega);have bD := AE (E := E) (k := r) (rm := rm) (ph := s1.ph) (I := s1.I) (J := s1.J) (T := s1.T) (dirty := true) (hv := b8) (fv := dq) (cv := df) (b := bE) hD (aP s1.ch).length (by omega) (by omega);rw [tY, oA, DF, hE, ← kg.1, ← kg.2.1] at bD;have fL : dN E r rm { s1 with dirty := true, I := (bT (aP s.ch).length s.I s.J).1, J := (bT (aP s.ch).length s.I s.J).2 } (eE E r rm s1.ph (bT (aP s.ch).length s.I s.J).1 (bT (aP s.ch).length s.I s.J).2 s1.T true b8 dq df bE (.p (cM 4 (aP s1.ch).length (ni (aP s1.ch))))) (dZ bE dw b8 dq df s1.hot s1.fnd s1.ch) := ⟨b8, dq, df, bE, dw, _, fU, rfl, fun _ => rfl, rfl, rfl⟩;rw [tY] at fL en;rw [oA, DF, tY];(refine bc ?_);refine kL 1000 rfl rfl rfl rfl bD rfl rfl rfl rfl rfl ?_;(refine bc ?_);refine iO rfl rfl rfl rfl rfl rfl rfl rfl en fL (fun ar ay lY => ?_);(refine bc ?_);obtain ⟨x1, C3, CL, dO, y1, Ec, Dj, DC, DB, rfl, rfl⟩ := id lY
    ((refine eT rfl aJ rfl (bx.refl _) lY.closed rfl fm ?_))
    exact ⟨_, rfl, rfl, lY⟩
 ·have qn : mJ r M = none := if_neg af;rw [qn];have Yf : br.cY (bt E r rm) s none = s := rfl;rw [Yf, if_neg (by omega)];clear H1;have en := PS (E := E) (r := r) (rm := rm) (s := { s with I := (bT (aP s.ch).length s.I s.J).1, J := (bT (aP s.ch).length s.I s.J).2 }) ap aj aA;rw [show jn ({ s with I := (bT (aP s.ch).length s.I s.J).1, J := (bT (aP s.ch).length s.I s.J).2 } : br.aT ao) = jn s from rfl] at en;have bD := AE (E := E) (k := r) (rm := rm) (ph := s.ph) (I := s.I) (J := s.J) (T := s.T) (dirty := s.dirty) (hv := hv) (fv := fv) (cv := cv) (b := b) db (aP s.ch).length (by omega) (by omega);have fL : dN E r rm { s with I := (bT (aP s.ch).length s.I s.J).1, J := (bT (aP s.ch).length s.I s.J).2 } (eE E r rm s.ph (bT (aP s.ch).length s.I s.J).1 (bT (aP s.ch).length s.I s.J).2 s.T s.dirty hv fv cv b (.p (cM 4 (aP s.ch).length (ni (aP s.ch))))) (dZ b S hv fv cv s.hot s.fnd s.ch) := ⟨hv, fv, cv, b, S, _, hS, rfl, fun _ => rfl, rfl, rfl⟩;obtain ⟨mk, Jt, md, dz, Jn, Ju, Jv, Jw, Jx⟩ := M;have af : ¬ mk = 1 := af
  by_cases q2 : (bT (aP s.ch).length s.I s.J).2 < (aP s.ch).length
  ·rw [if_pos q2];have hE := kg.2.2;rw [cd q2] at hE;rw [hE, ← kg.1, ← kg.2.1] at bD;refine dE (f := 57) Tryz.func57 rfl (dA rfl) (by exact ew rfl) ?_;(repeat first | (with_reducible apply dl (id := 1) [20,21,0,1,2,3,4,5,6,7,8,9,10,11,12,13,14,15,16,17,18,19,22,23]); kernel_rfl; kernel_rfl; rfl | (with_reducible apply dl (id := 2) [7,0,1,2,3,4,5,6,8]); kernel_rfl; kernel_rfl; rfl | refine cG ?_ | refine iF ?_);refine kL 1000 rfl rfl rfl rfl bD rfl rfl rfl rfl rfl ?_;(refine bc ?_)
   ((refine eT rfl aJ rfl (bx.refl _) fL.closed rfl fm ?_))
   exact ⟨_, rfl, rfl, fL⟩
  ·rw [if_neg q2];have hE := kg.2.2;rw [cA q2] at hE;rw [hE, ← kg.1, ← kg.2.1] at bD;refine dE (f := 57) Tryz.func57 rfl (dA rfl) (by exact ew rfl) ?_;(repeat first | (with_reducible apply dl (id := 1) [20,21,0,1,2,3,4,5,6,7,8,9,10,11,12,13,14,15,16,17,18,19,22,23]); kernel_rfl; kernel_rfl; rfl | (with_reducible apply dl (id := 2) [7,0,1,2,3,4,5,6,8]); kernel_rfl; kernel_rfl; rfl | refine cG ?_ | refine iF ?_);refine kL 1000 rfl rfl rfl rfl bD rfl rfl rfl rfl rfl ?_;(refine bc ?_);refine iO rfl rfl rfl rfl rfl rfl rfl rfl en fL (fun ar ay lY => ?_);(refine bc ?_);obtain ⟨x1, C3, CL, dO, y1, Ec, Dj, DC, DB, rfl, rfl⟩ := id lY
   ((refine eT rfl aJ rfl (bx.refl _) lY.closed rfl fm ?_))
   exact ⟨_, rfl, rfl, lY⟩
end
end Go.Proofs.YtbcecodakfejaaaGreat
