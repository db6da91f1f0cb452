/-
  My own texts, without what this claim does not need. My own text.
-/
import Derived.Test.YtbcecodakfejaaaGreatSKeepsK15
set_option maxRecDepth 100000
set_option maxHeartbeats 64000000
set_option linter.unusedVariables false
set_option linter.unusedSimpArgs false
set_option linter.unusedSectionVars false
open Go.Proofs.Tryz renaming prog → ag
namespace Go.Proofs.YtbcecodakfejaaaGreat
open Go.RowKit
open br
section
variable {E : List (Int × bO)} {r rm : Nat}
theorem SW {b : Nat} {S : e4} {hv fv cv v : Value} {hot fnd : List ao} {ch l : List (List ao × List Int)} : bI (dZ b S hv fv cv hot fnd ch) 3 (xo v l) = dZ b S hv fv v hot fnd l := by
  funext i
  match i with
  | 0 => rfl
  | 1 => rfl
  | 2 => rfl
  | 3 => rfl
  | i + 4 => rfl
theorem MV {ch : List (List ao × List Int)} {i : Nat} {ii : Int} {V : List ao} {D : List Int} (hi : ii = i) (h : i < ch.length) : eI (eG ch) (ii.toNat * 2) [.p (cM 2 V.length (b3 V)), .p (cM 1 D.length (cV D))] = eG (ch.set i (V, D)) := by
  subst hi;rw [ld];have e : ch = ch.take i ++ ch[i] :: ch.drop (i + 1) := by rw [← nm h, kr]
  have hl : (eG (ch.take i)).length = i * 2 := by
    have := C1 (f := qg) (z := 2) (fun _ => rfl) (ch.take i);unfold eG;rw [this, ei, pP (by omega)]
  have aG : eG ch = eG (ch.take i) ++ (qg ch[i] ++ eG (ch.drop (i + 1))) := (congrArg eG e).trans (by unfold eG; rw [List.flatMap_append, List.flatMap_cons]);rw [aG, KB hl, List.set_eq_take_append_cons_drop, if_pos h];simp [eG, qg]
theorem YH {p q : ao} {bi : List ao} (aw : bi.Nodup) : jo (dS (decide ((2 : Int) ^ r * q.1 < 2 ^ r * p.1)) (decide ((2 : Int) ^ r * q.2 < 2 ^ r * p.2))) bi = fP p q bi := by
  rw [CZ, CZ];exact aix aw (by rw [List.filter_eq_self.2 (fun _ _ => rfl)])
theorem aci {s : br.aT ao} {V : List ao} {D : List Int} {p q x : ao} (al : r ≤ 28) (aj : kZ s.ch) (g1 : s.ch[s.I]? = some (V, D)) (g2 : V[s.J]? = some p) (g3 : V[s.J + 1]? = some q) (g4 : s.hot[s.T]? = some x) (eN : ∀ d ∈ D, 1 ≤ d ∧ d ≤ 1048576)
    (hp : eA r p.1 p.2 = true) (ak : eA r q.1 q.2 = true) (hd : s.dirty = false) (aR : s.hot.length ≤ 1024) (xP : s.fnd.length ≤ 1024) (xQ : (hf (bt E r rm) p q x s.fnd).Nodup) (gT : s.ph = 2) : gw E r rm 56 [] s mj (ma (bt E r rm) s (V, D) p q (hf (bt E r rm) p q x s.fnd)) := by
  obtain ⟨p1, p2⟩ := p;obtain ⟨q1, q2⟩ := q;obtain ⟨b4, ck⟩ := x;obtain ⟨iZ, ja⟩ := aj.2 _ (dc g1);simp only at iZ ja;have bl := (bL.1 g1).1;have im := (bL.1 g3).1;have cH := (bL.1 g4).1;have aq : gg (r : Int) r := ⟨al, .inr (.inr rfl)⟩;have aS := RL (D := D) g2 g3 (by omega);have bD := afI (E := E.map Prod.snd) (R := rm) al (p := (p1, p2)) (q := (q1, q2)) (x := (b4, ck)) hp ak;have dW := EP (qO aq hp) (qO aq ak);simp only at bD dW;have js := aey (a1 := 2 ^ r * p1) (a2 := 2 ^ r * p2) (b1 := 2 ^ r * q1) (b2 := 2 ^ r * q2);obtain ⟨mR, sn⟩ := CG (ii := (s.I : Int)) rfl g1;have Uw := abv (ii := (s.T : Int)) rfl g4;have i0 : (0 : Int) ≤ (s.I : Int) := by omega
  have i1 : (s.I : Int) < (s.ch.length : Int) := by omega
  have i2 : 0 < s.ch.length := by omega
  have t0 : (0 : Int) ≤ (s.T : Int) := by omega
  have t1 : (s.T : Int) < (s.hot.length : Int) := by omega
  have t2 : 0 < s.hot.length := by omega
  have Zi : (s.J : Int) ≤ 1100 := by omega
  have c4 := aj.1
 
  have split : ∀ bi : List ao, bi = hf (bt E r rm) (p1, p2) (q1, q2) (b4, ck) s.fnd → bi ≠ [] → bi.length ≤ 1100 → au ag 100 [h7 bi, wV (decide ((2 : Int) ^ r * q1 < 2 ^ r * p1)) (decide ((2 : Int) ^ r * q2 < 2 ^ r * p2))] (h7 (fP (p1, p2) (q1, q2) bi)) ∧
      au ag 99 [oR V D, ax s.J, h7 (fP (p1, p2) (q1, q2) bi)] (.cz [.agg [.p (cM 2 (br.b5 V s.J (fP (p1, p2) (q1, q2) bi)).length (b3 (br.b5 V s.J (fP (p1, p2) (q1, q2) bi)))), .p (cM 1 (eB D s.J bi.length).length (cV (eB D s.J bi.length)))], .one (.c (.bool true))]) := by
    intro bi xR b7 Z4;have aw : bi.Nodup := by rw [xR]; exact xQ
    have hlen : (fP (p1, p2) (q1, q2) bi).length = bi.length := (Bw _ _ bi).length_eq;refine ⟨?_, ?_⟩
    · have := ae4 (fx := decide ((2 : Int) ^ r * q1 < 2 ^ r * p1)) (fy := decide ((2 : Int) ^ r * q2 < 2 ^ r * p2)) 1100 bi Z4 (by omega)
      rw [YH (p := (p1, p2)) (q := (q1, q2)) aw] at this;exact this
    · have := ab6 V D s.J (fP (p1, p2) (q1, q2) bi) iZ ja (by omega) (by omega) eN
      have It : (fP (p1, p2) (q1, q2) bi).isEmpty = false := by
        cases h : fP (p1, p2) (q1, q2) bi with
        | nil => rw [h] at hlen; exact absurd (ks hlen.symm) b7
        | cons a l => rfl
      rw [It, hlen] at this;exact this
  rintro cs R kc;obtain ⟨hv, fv, cv, b, S, lk, hS, db, gn, rfl, rfl⟩ := id kc;have dD : ∀ (I J T : Int) (fv : Value), (eE E r rm s.ph I J T s.dirty hv fv cv b lk).all AC.aZ = true := fun I J T fv => by simp only [kt, nr, db]; rfl
  unfold ma;simp only [show (bt E r rm).gb = fP from rfl];cases jc : hB (bt E r rm) (p1, p2) (q1, q2) (b4, ck) with
  | true =>
    rw [jc] at bD;have mX : hf (bt E r rm) (p1, p2) (q1, q2) (b4, ck) s.fnd = s.fnd ++ [(b4, ck)] := by unfold hf; rw [jc]; rfl
    rw [mX] at split ⊢;have Z5 : (s.fnd ++ [(b4, ck)]).length ≤ 1100 := by rw [cO, List.length_singleton]; omega
    have b7 : s.fnd ++ [(b4, ck)] ≠ [] := by simp
    obtain ⟨mQ, yJ⟩ := split _ rfl b7 Z5;clear split xQ jc;refine dE (f := 56) Tryz.func56 rfl (dA rfl) (by exact ew rfl) ?_;(repeat first | (with_reducible apply dl (id := 1) [10,0,1,2,3,4,5,6,7,8,9,11]); kernel_rfl; kernel_rfl; rfl | (with_reducible apply dl (id := 2) [6,0,1,2,3,4,5,7]); kernel_rfl; kernel_rfl; rfl | (with_reducible apply dl (id := 3) [10,0,1,2,3,4,5,6,7,8,9,11]); kernel_rfl; kernel_rfl; rfl | (with_reducible apply dl (id := 4) [0,1,2,3,4,5,6]); kernel_rfl; kernel_rfl; rfl | (with_reducible apply mh (id := 5) [0,1,2,3,4,5,6,7,8,9,10] [3000048]); kernel_rfl; kernel_rfl; rfl | refine cG ?_ | refine iF ?_ | (with_reducible apply jT 1); (iterate 4 rfl); (omega); (assumption); rfl; kernel_rfl; rfl | (with_reducible apply jT 3); (iterate 4 rfl); (omega); (assumption); rfl; kernel_rfl; rfl | (with_reducible apply nS 1); (iterate 3 rfl); (assumption); assumption; rfl; kernel_rfl; rfl | (with_reducible apply nS 3); (iterate 3 rfl); (assumption); assumption; rfl; kernel_rfl; rfl);refine rR 2 rfl rfl rfl rfl ?q1 ?q2 rfl rfl (fun v1 hk => ?_)
    case q1 => exact lA (by show s.fnd.length + 1 ≤ 1000000; omega)
    case q2 => show (s.fnd.length + 1) * 16 ≤ 140737488355328; omega
    (repeat first | (with_reducible apply dl (id := 7) [0,1,2,3,4,5,6,7,8,9]); kernel_rfl; kernel_rfl; rfl | refine cG ?_ | (with_reducible apply nR 1); (iterate 4 rfl); kernel_rfl; rfl);refine Fx (dZ b S hv v1 cv s.hot (s.fnd ++ [(b4, ck)]) s.ch) (bx.of_eq ag8.symm) ?_
    by_cases ui : s.T + 1 < s.hot.length
    · rw [if_pos ui]
      have zF : (s.T : Int) + 1 < (s.hot.length : Int) := by omega
      have fL : dN E r rm { s with fnd := s.fnd ++ [(b4, ck)], T := s.T + 1 } (eE E r rm s.ph s.I s.J ((s.T : Int) + 1) s.dirty hv v1 cv b lk) (dZ b S hv v1 cv s.hot (s.fnd ++ [(b4, ck)]) s.ch) := ⟨hv, v1, cv, b, S, lk, hS, db, gn, rfl, rfl⟩;(refine bc ?_)
      ((refine eT rfl aJ rfl (bx.refl _) fL.closed rfl fm ?_))
      exact ⟨_, rfl, rfl, fL⟩
    · rw [if_neg ui, if_neg b7]
      have zF : ¬ (s.T : Int) + 1 < (s.hot.length : Int) := by omega
      have It : ¬ ((s.fnd ++ [(b4, ck)]).length : Int) = 0 := fun h => b7 (ks (by omega));refine Tj 2 1000 9 (jh v1 (s.fnd ++ [(b4, ck)])) rfl rfl rfl ?_;refine oO 2 36 2 rfl ?_
      refine Fx (dZ b S hv (.slice none 0 0) cv s.hot [] s.ch) (fun k q af => by
        match k with
        | 0 => exact af
        | 1 => exact af
        | 2 => exact af
        | 3 => exact af
        | k + 4 => cases af) ?_
      have fL : dN E r rm { s with T := 0, fnd := [], ch := s.ch.set s.I (br.b5 V s.J (fP (p1, p2) (q1, q2) (s.fnd ++ [(b4, ck)])), eB D s.J (s.fnd ++ [(b4, ck)]).length) } (eE E r rm s.ph s.I s.J 0 s.dirty hv (.slice none 0 0) cv b lk) (dZ b S hv (.slice none 0 0) cv s.hot [] (s.ch.set s.I (br.b5 V s.J (fP (p1, p2) (q1, q2) (s.fnd ++ [(b4, ck)])), eB D s.J (s.fnd ++ [(b4, ck)]).length))) := ⟨hv, _, cv, b, S, lk, hS, db, (fun h => absurd (gT.symm.trans (show s.ph = 3 from h)) (by decide)), rfl, rfl⟩
      have nQ : bI (dZ b S hv (.slice none 0 0) cv s.hot [] s.ch) 3 ⟨34, 2, cv, s.ch.length, eI (eG s.ch) ((s.I : Int).toNat * 2) [.p (cM 2 (br.b5 V s.J (fP (p1, p2) (q1, q2) (s.fnd ++ [(b4, ck)]))).length (b3 (br.b5 V s.J (fP (p1, p2) (q1, q2) (s.fnd ++ [(b4, ck)]))))), .p (cM 1 (eB D s.J (s.fnd ++ [(b4, ck)]).length).length (cV (eB D s.J (s.fnd ++ [(b4, ck)]).length)))]⟩ = dZ b S hv (.slice none 0 0) cv s.hot [] (s.ch.set s.I (br.b5 V s.J (fP (p1, p2) (q1, q2) (s.fnd ++ [(b4, ck)])), eB D s.J (s.fnd ++ [(b4, ck)]).length)) := by
        rw [MV rfl bl, show s.ch.length = (s.ch.set s.I (br.b5 V s.J (fP (p1, p2) (q1, q2) (s.fnd ++ [(b4, ck)])), eB D s.J (s.fnd ++ [(b4, ck)]).length)).length from (List.length_set ..).symm];exact SW
      generalize IM : br.b5 V s.J (fP (p1, p2) (q1, q2) (s.fnd ++ [(b4, ck)])) = Lw at *;generalize IP : eB D s.J (s.fnd ++ [(b4, ck)]).length = w4 at *;generalize Pn : fP (p1, p2) (q1, q2) (s.fnd ++ [(b4, ck)]) = L' at *;(repeat first | (with_reducible apply mh (id := 12) [0,1,2,3,4,5,6,7,8,9,10,11,12,13,14,15,16,17,18,19,20,21,22,23,24,25,26,27,28,29,30,31,32] [4000000]); kernel_rfl; kernel_rfl; rfl | refine cG ?_ | refine iF ?_ | (with_reducible apply jT 3); (iterate 4 rfl); (omega); (assumption); rfl; kernel_rfl; rfl);refine Ak 3 rfl rfl rfl rfl i2 rfl rfl mR.1 rfl ?_;(refine bc ?_)
      ((refine eT rfl aJ rfl (bx.of_eq nQ.symm) fL.closed rfl fm ?_))
      exact ⟨_, rfl, rfl, fL⟩
  | false =>
    rw [jc] at bD;have mX : hf (bt E r rm) (p1, p2) (q1, q2) (b4, ck) s.fnd = s.fnd := by unfold hf; rw [jc]; rfl
    rw [mX] at split ⊢;have aks := cH
    by_cases b7 : s.fnd = []
    · clear split xQ jc
      have dh : ({ s with fnd := s.fnd } : br.aT ao) = s := rfl;have aA : (s.fnd.length : Int) = 0 := by rw [b7]; rfl
      have en := PU (E := E) (r := r) (rm := rm) (s := { s with T := 0, fnd := [], J := s.J + 1 }) hd rfl aj bl (by show s.J + 1 ≤ 1100; omega) gT;have lY : dN E r rm { s with T := 0, fnd := [], J := s.J + 1 } (eE E r rm s.ph s.I ((s.J : Int) + 1) 0 s.dirty hv fv cv b lk) (dZ b S hv fv cv s.hot s.fnd s.ch) := ⟨hv, fv, cv, b, S, lk, hS, db, gn, rfl, by rw [b7]⟩
      by_cases ui : s.T + 1 < s.hot.length
      · rw [if_pos ui]
        have zF : (s.T : Int) + 1 < (s.hot.length : Int) := by omega
        have fL : dN E r rm { s with fnd := s.fnd, T := s.T + 1 } (eE E r rm s.ph s.I s.J ((s.T : Int) + 1) s.dirty hv fv cv b lk) (dZ b S hv fv cv s.hot s.fnd s.ch) := ⟨hv, fv, cv, b, S, lk, hS, db, gn, rfl, rfl⟩;refine dE (f := 56) Tryz.func56 rfl (dA rfl) (by exact ew rfl) ?_;(repeat first | (with_reducible apply dl (id := 1) [10,0,1,2,3,4,5,6,7,8,9,11]); kernel_rfl; kernel_rfl; rfl | (with_reducible apply dl (id := 2) [6,0,1,2,3,4,5,7]); kernel_rfl; kernel_rfl; rfl | (with_reducible apply dl (id := 3) [10,0,1,2,3,4,5,6,7,8,9,11]); kernel_rfl; kernel_rfl; rfl | (with_reducible apply dl (id := 4) [0,1,2,3,4,5,6]); kernel_rfl; kernel_rfl; rfl | (with_reducible apply dl (id := 7) [0,1,2,3,4,5,6,7,8,9]); kernel_rfl; kernel_rfl; rfl | refine cG ?_ | refine iF ?_ | (with_reducible apply nR 1); (iterate 4 rfl); kernel_rfl; rfl | (with_reducible apply jT 1); (iterate 4 rfl); (omega); (assumption); rfl; kernel_rfl; rfl | (with_reducible apply jT 3); (iterate 4 rfl); (omega); (assumption); rfl; kernel_rfl; rfl | (with_reducible apply nS 1); (iterate 3 rfl); (assumption); assumption; rfl; kernel_rfl; rfl | (with_reducible apply nS 3); (iterate 3 rfl); (assumption); assumption; rfl; kernel_rfl; rfl)
        ((refine eT rfl aJ rfl (bx.refl _) fL.closed rfl fm ?_))
        exact ⟨_, rfl, rfl, fL⟩
      · rw [if_neg ui, if_pos b7]
        have zF : ¬ (s.T : Int) + 1 < (s.hot.length : Int) := by omega
        refine dE (f := 56) Tryz.func56 rfl (dA rfl) (by exact ew rfl) ?_;(repeat first | (with_reducible apply dl (id := 1) [10,0,1,2,3,4,5,6,7,8,9,11]); kernel_rfl; kernel_rfl; rfl | (with_reducible apply dl (id := 2) [6,0,1,2,3,4,5,7]); kernel_rfl; kernel_rfl; rfl | (with_reducible apply dl (id := 3) [10,0,1,2,3,4,5,6,7,8,9,11]); kernel_rfl; kernel_rfl; rfl | (with_reducible apply dl (id := 4) [0,1,2,3,4,5,6]); kernel_rfl; kernel_rfl; rfl | (with_reducible apply dl (id := 7) [0,1,2,3,4,5,6,7,8,9]); kernel_rfl; kernel_rfl; rfl | refine cG ?_ | refine iF ?_ | (with_reducible apply nR 1); (iterate 4 rfl); kernel_rfl; rfl | (with_reducible apply nR 2); (iterate 4 rfl); kernel_rfl; rfl | (with_reducible apply jT 1); (iterate 4 rfl); (omega); (assumption); rfl; kernel_rfl; rfl | (with_reducible apply jT 3); (iterate 4 rfl); (omega); (assumption); rfl; kernel_rfl; rfl | (with_reducible apply nS 1); (iterate 3 rfl); (assumption); assumption; rfl; kernel_rfl; rfl | (with_reducible apply nS 3); (iterate 3 rfl); (assumption); assumption; rfl; kernel_rfl; rfl);refine iO rfl rfl rfl rfl rfl rfl rfl rfl en lY (fun ar ay HK => ?_);(refine bc ?_);obtain ⟨x1, C3, CL, dO, y1, Ec, Dj, DC, DB, rfl, rfl⟩ := id HK
        ((refine eT rfl aJ rfl (bx.refl _) HK.closed rfl fm ?_))
        exact ⟨_, rfl, rfl, HK⟩
    obtain ⟨mQ, yJ⟩ := split _ rfl b7 (by omega);clear split xQ jc;refine dE (f := 56) Tryz.func56 rfl (dA rfl) (by exact ew rfl) ?_;(repeat first | (with_reducible apply dl (id := 1) [10,0,1,2,3,4,5,6,7,8,9,11]); kernel_rfl; kernel_rfl; rfl | (with_reducible apply dl (id := 2) [6,0,1,2,3,4,5,7]); kernel_rfl; kernel_rfl; rfl | (with_reducible apply dl (id := 3) [10,0,1,2,3,4,5,6,7,8,9,11]); kernel_rfl; kernel_rfl; rfl | (with_reducible apply dl (id := 4) [0,1,2,3,4,5,6]); kernel_rfl; kernel_rfl; rfl | (with_reducible apply dl (id := 7) [0,1,2,3,4,5,6,7,8,9]); kernel_rfl; kernel_rfl; rfl | refine cG ?_ | refine iF ?_ | (with_reducible apply nR 1); (iterate 4 rfl); kernel_rfl; rfl | (with_reducible apply jT 1); (iterate 4 rfl); (omega); (assumption); rfl; kernel_rfl; rfl | (with_reducible apply jT 3); (iterate 4 rfl); (omega); (assumption); rfl; kernel_rfl; rfl | (with_reducible apply nS 1); (iterate 3 rfl); (assumption); assumption; rfl; kernel_rfl; rfl | (with_reducible apply nS 3); (iterate 3 rfl); (assumption); assumption; rfl; kernel_rfl; rfl)
    by_cases ui : s.T + 1 < s.hot.length
    · rw [if_pos ui]
      have zF : (s.T : Int) + 1 < (s.hot.length : Int) := by omega
      have fL : dN E r rm { s with fnd := s.fnd, T := s.T + 1 } (eE E r rm s.ph s.I s.J ((s.T : Int) + 1) s.dirty hv fv cv b lk) (dZ b S hv fv cv s.hot (s.fnd) s.ch) := ⟨hv, fv, cv, b, S, lk, hS, db, gn, rfl, rfl⟩;(refine bc ?_)
      ((refine eT rfl aJ rfl (bx.refl _) fL.closed rfl fm ?_))
      exact ⟨_, rfl, rfl, fL⟩
    · rw [if_neg ui, if_neg b7]
      have zF : ¬ (s.T : Int) + 1 < (s.hot.length : Int) := by omega
      have It : ¬ ((s.fnd).length : Int) = 0 := fun h => b7 (ks (by omega));refine Tj 2 1000 9 (jh fv (s.fnd)) rfl rfl rfl ?_;refine oO 2 36 2 rfl ?_
      refine Fx (dZ b S hv (.slice none 0 0) cv s.hot [] s.ch) (fun k q af => by
        match k with
        | 0 => exact af
        | 1 => exact af
        | 2 => exact af
        | 3 => exact af
        | k + 4 => cases af) ?_
      have fL : dN E r rm { s with T := 0, fnd := [], ch := s.ch.set s.I (br.b5 V s.J (fP (p1, p2) (q1, q2) (s.fnd)), eB D s.J (s.fnd).length) } (eE E r rm s.ph s.I s.J 0 s.dirty hv (.slice none 0 0) cv b lk) (dZ b S hv (.slice none 0 0) cv s.hot [] (s.ch.set s.I (br.b5 V s.J (fP (p1, p2) (q1, q2) (s.fnd)), eB D s.J (s.fnd).length))) := ⟨hv, _, cv, b, S, lk, hS, db, (fun h => absurd (gT.symm.trans (show s.ph = 3 from h)) (by decide)), rfl, rfl⟩
      have nQ : bI (dZ b S hv (.slice none 0 0) cv s.hot [] s.ch) 3 ⟨34, 2, cv, s.ch.length, eI (eG s.ch) ((s.I : Int).toNat * 2) [.p (cM 2 (br.b5 V s.J (fP (p1, p2) (q1, q2) (s.fnd))).length (b3 (br.b5 V s.J (fP (p1, p2) (q1, q2) (s.fnd))))), .p (cM 1 (eB D s.J (s.fnd).length).length (cV (eB D s.J (s.fnd).length)))]⟩ = dZ b S hv (.slice none 0 0) cv s.hot [] (s.ch.set s.I (br.b5 V s.J (fP (p1, p2) (q1, q2) (s.fnd)), eB D s.J (s.fnd).length)) := by
        rw [MV rfl bl, show s.ch.length = (s.ch.set s.I (br.b5 V s.J (fP (p1, p2) (q1, q2) s.fnd), eB D s.J s.fnd.length)).length from (List.length_set ..).symm];exact SW
      generalize IM : br.b5 V s.J (fP (p1, p2) (q1, q2) (s.fnd)) = Lw at *;generalize IP : eB D s.J (s.fnd).length = w4 at *;generalize Pn : fP (p1, p2) (q1, q2) (s.fnd) = L' at *;(repeat first | (with_reducible apply mh (id := 12) [0,1,2,3,4,5,6,7,8,9,10,11,12,13,14,15,16,17,18,19,20,21,22,23,24,25,26,27,28,29,30,31,32] [4000000]); kernel_rfl; kernel_rfl; rfl | refine cG ?_ | refine iF ?_ | (with_reducible apply jT 3); (iterate 4 rfl); (omega); (assumption); rfl; kernel_rfl; rfl);refine Ak 3 rfl rfl rfl rfl i2 rfl rfl mR.1 rfl ?_;(refine bc ?_)
      ((refine eT rfl aJ rfl (bx.of_eq nQ.symm) fL.closed rfl fm ?_))
      exact ⟨_, rfl, rfl, fL⟩
end
section
variable {P : Program} {R : aI} {s : aC} {ops : Array Oper} {dr : Option (List Nat)} {ty : Nat} {pos : String} {after : Array Edge} {guard : Option (Nat × Bool)} {K : aI → aC → Prop} {rest : List Oper}
theorem DL {bs : List Value} {dst : Option Nat} {f : FuncId} {g : Operand} {aL : Array TypeId} {l : List Operand} {args : List ah} {m0 : Mem} {R0 : aI} {Post : ah → Mem → aI → Prop} [E : Enters P f] (hw : want ops ⟨dst, .call ⟨.value g, l.toArray, aL⟩, ty, pos, after, guard⟩ s = some true) (hm : cY dr ⟨dst, .call ⟨.value g, l.toArray, aL⟩, ty, pos, after, guard⟩ = true)
  (an : s.look g = some (aQ (.func (.func f) bs.toArray #[]))) (ab : bs.all CB = true) (aF : bs.map (fun b => some (yg b)) ++ l.map s.look = args.map some) (hp : du P f args m0 R0 Post) (az : ∀ x ∈ args, ∀ j, x.owns j → ∃ cs, m0 j = some cs) (nO : ∀ k cs, m0 k = some cs → s.mem k = some cs ∧ (pU dr k = true ∨ ∀ r aH ay, Post r aH ay → aH k = some cs)) (al : bx R0 R) (fN : ∀ k cs x j, m0 k = some cs → x ∈ cs → x.owns j → ∃ ar, m0 j = some ar) (hd : lp dst s.n = true)
  (h : ∀ r aH ay, Post r aH ay → (∀ k ar, aH k = some ar → (∃ cs, m0 k = some cs) ∨ (s.mem k = none ∧ k < s.n)) ∧ cT P ops dr K rest (bX ay R) ((s.over aH).put dst r)) : cT P ops dr K (⟨dst, .call ⟨.value g, l.toArray, aL⟩, ty, pos, after, guard⟩ :: rest) R s := by
 refine ⟨true, hw, Nk hd, .inr (.inr (.inr (.inr (.inl ⟨rfl, hm, f, args, m0, R0, Post, ⟨⟨_, g, rfl, rfl, .inl ⟨bs, an, ?_, ab⟩⟩, E.h⟩, hp, az, nO, al, fN, fun r aH ay h1 _ _ _ => h r aH ay h1⟩))))⟩;simpa using aF
theorem W7 (g e off : Nat) (cs : List AC) : n1 g off = j6 (jz g e cs).v off := by
 show n1 g off = .pointer (some ((⟨g, 0, none⟩ : Addr).add off));rw [Cm, j3]
theorem uy {x : Operand} {d lt off g e : Nat} {cs : List AC} {c1 : AC} (i : Nat) [T : fq P lt false 1] (hi : R i = some (jz g e cs)) (hw : want ops ⟨some d, .load lt x, ty, pos, after, guard⟩ s = some true) (aa : s.look x = some (aQ (n1 g off))) (aN : cs[off]? = some c1) (aj : (ah.w (.one c1)).aZ = true) (al : u5 ops dr (some d) = true) (hd : Nat.blt d s.n = true) (h : cT P ops dr K rest R (s.put (some d) (.w (.one c1)))) : cT P ops dr K (⟨some d, .load lt x, ty, pos, after, guard⟩ :: rest) R s :=
 Ah i hi hw (by rw [aa, W7 g e off cs]) Nat.one_pos aN aj al hd h
end
theorem zO {P : Program} {fn : Func} {l : List ResultVar} {xs : List bA} {R R0 bf : aI} {s : aC} {Post : ah → Mem → aI → Prop} (al : fn.results = l.toArray) (h : l.map (jl P s) = xs.map some) (aq : bx bf R) (aa : (packed xs).aZ = true) (aA : ∀ i r, R0 i = some r → ∃ aV, bf i = some aV) (hp : Post (packed xs) cj bf) : uo P fn cj R0 Post R s :=
 ⟨xs, packed xs, cj, bf, by rw [al]; exact h, .refl _, hp, fun k c h => (by cases h), aq, fun j ae => absurd ae (ah.dC aa j), fun k c x j h => (by cases h), fun k c h => (by cases h), aA⟩
theorem dN.o6 {E : List (Int × bO)} {r rm : Nat} {s : br.aT ao} {cs : List AC} {R : aI} (h : dN E r rm s cs R) : R 9 = none ∧ cs.all AC.aZ = true ∧ 0 < cs.length := by
 refine ⟨?_, h.closed, ?_⟩
 ·obtain ⟨_, _, _, _, _, _, _, _, _, _, rfl⟩ := h; rfl
 ·obtain ⟨_, _, _, _, _, _, _, _, _, rfl, _⟩ := h; exact j4 _
section
variable {E : List (Int × bO)} {r rm : Nat}
theorem Fo {f : FuncId} {s s1 : br.aT ao} {v : ah} {cs : List AC} {R : aI} (IL : v.aZ = true) (hp : gw E r rm f [] s v s1) (bl : dN E r rm s cs R) (g e : Nat) : du ag f [aQ (eh g)] cj (bI R 9 (jz g e cs)) fun cb aH ay => ∃ ar bf bm, (cb = v ∧ dN E r rm s1 ar bf) ∧ aH = cj ∧ ay = bI bf 9 (jz g bm ar) := by
 have h := (hp cs R bl).aiS 9 g e rfl bl.o6.2.1 bl.o6.2.2 bl.o6.1 (fun cb aH ay ak => by
  obtain ⟨ar, rfl, rfl, ak⟩ := ak;exact ⟨IL, ak.o6.1, ar, rfl, ak.o6.2.1, ak.o6.2.2⟩)
 refine ⟨fun U ad W vs cq cy cW => (h.call U ad W vs cq cy cW).mono ?_⟩;rintro dh bk ⟨v1, bV, aH, ay, aX, cR, q0, ⟨ar, bf, bm, ⟨tW, he, ak⟩, rfl, rfl⟩, mK⟩
 have : tW = ar := by
  have h1 : cZ 1000 ar 1000 = some ar := by unfold cZ; exact cF _ _ _
  rw [he] at h1;exact (hW h1).2.symm
 subst this;exact ⟨v1, bV, cj, _, aX, cR, q0, ⟨tW, bf, bm, ak, rfl, rfl⟩, mK⟩
theorem Fm {f : FuncId} {args : List ah} {s s1 : br.aT ao} {v : ah} (IL : v.aZ = true) (eo : args.all ah.aZ = true) (h : ∀ cs R, dN E r rm s cs R → ∀ g e, du ag f (aQ (eh g) :: args) cj (bI R 9 (jz g e cs)) fun cb aH ay => ∃ ar bf bm, (cb = v ∧ dN E r rm s1 ar bf) ∧ aH = cj ∧ ay = bI bf 9 (jz g bm ar)) : gw E r rm f args s v s1 := by
 intro cs R bl;refine du.aiR 9 (fun g e => ?_) eo bl.o6.2.1 bl.o6.2.2 bl.o6.1 (fun cb ar ay ak => ?_)
 ·refine ⟨fun U ad W vs cq cy cW => ((h cs R bl g e).call U ad W vs cq cy cW).mono ?_⟩;rintro dh bk ⟨v1, bV, aH, ay, aX, cR, q0, ⟨ar, bf, bm, ak, rfl, rfl⟩, mK⟩;exact ⟨v1, bV, cj, _, aX, cR, q0, ⟨ar, bf, bm, ⟨ar, rfl, ak⟩, rfl, rfl⟩, mK⟩
 ·obtain ⟨tW, he, rfl, ak⟩ := ak
  have : tW = ar := by
   have h1 : cZ 1000 ar 1000 = some ar := by unfold cZ; exact cF _ _ _
   rw [he] at h1;exact (hW h1).2.symm
  subst this;exact ⟨IL, ak.o6.1, ak.o6.2.1, ak.o6.2.2⟩
theorem Fk {s s1 : br.aT ao} {cs ar : List AC} {R ay : aI} {g e bm : Nat} (h : dN E r rm s cs R) (aM : dN E r rm s1 ar ay) : ∀ i q, bI R 9 (jz g e cs) i = some q → ∃ cf, bI ay 9 (jz g bm ar) i = some cf := by
 obtain ⟨_, _, _, _, _, _, _, _, _, _, rfl⟩ := h;obtain ⟨_, _, _, _, _, _, _, _, _, _, rfl⟩ := aM;intro i q ak
 by_cases lr : i = 9
 ·subst lr; exact ⟨_, cF _ _ _⟩
 ·rw [ct _ _ lr] at ak;obtain ⟨cf, nc⟩ := fm i q ak;exact ⟨cf, by rw [ct _ _ lr]; exact nc⟩
theorem Fl {s s1 : br.aT ao} {cs ar : List AC} {R ay : aI} {g e bm : Nat} (h : dN E r rm s cs R) (aM : dN E r rm s1 ar ay) : bX (bI ay 9 (jz g bm ar)) (bI R 9 (jz g e cs)) = bI ay 9 (jz g bm ar) := by
 have az := h.bX aM;funext i
 by_cases lr : i = 9
 ·subst lr; exact (hX (cF _ _ _)).trans (cF _ _ _).symm
 ·have : bX ay R i = ay i := congrFun az i;unfold bX at this ⊢;rw [ct _ _ lr, ct _ _ lr]; exact this
theorem ab9 {s s1 : br.aT ao} (gT : s.ph = 0) (hp : gw E r rm 54 [] s mj s1) : gw E r rm 30 [] s (a7 true) s1 := by
 refine Fm rfl rfl fun cs R bl g e => ?_;have aS := Fo rfl hp bl g e;obtain ⟨ph, I, J, T, dirty, hot, fnd, ch⟩ := s;obtain rfl : ph = 0 := gT;obtain ⟨hv, fv, cv, b, S, lk, hS, db, gn, rfl, rfl⟩ := id bl;refine dE (f := 30) Tryz.func30 rfl (dA rfl) (by exact oo) ?_;(refine bc ?_);refine uy 9 rfl rfl rfl rfl rfl rfl rfl ?_;(refine bc ?_);refine uy 9 rfl rfl rfl rfl rfl rfl rfl ?_;(refine bc ?_);refine DL (bs := [eh g]) (args := [aQ (eh g)]) (l := []) rfl rfl rfl rfl rfl aS (fun x aa j ae => by simp at aa; subst aa; exact absurd ae (jf _ j)) (fun k c h => by cases h) (bx.refl _) (fun k c x j h => by cases h) rfl (fun cb aH ay ak => ?_);obtain ⟨ar, bf, bm, ⟨rfl, cr⟩, rfl, rfl⟩ := ak;refine ⟨fun k c h => (by cases h), ?_⟩;rw [Fl bl cr, uT];(refine bc ?_)
 ((refine zO rfl (aY rfl aJ) (bx.refl _) rfl (Fk bl cr) ?_))
 exact ⟨ar, bf, bm, ⟨rfl, cr⟩, rfl, rfl⟩
theorem aca {s s1 : br.aT ao} (gT : s.ph = 1) (hp : gw E r rm 55 [] s mj s1) : gw E r rm 30 [] s (a7 true) s1 := by
 refine Fm rfl rfl fun cs R bl g e => ?_;have aS := Fo rfl hp bl g e;obtain ⟨ph, I, J, T, dirty, hot, fnd, ch⟩ := s;obtain rfl : ph = 1 := gT;obtain ⟨hv, fv, cv, b, S, lk, hS, db, gn, rfl, rfl⟩ := id bl;refine dE (f := 30) Tryz.func30 rfl (dA rfl) (by exact oo) ?_;(refine bc ?_);refine uy 9 rfl rfl rfl rfl rfl rfl rfl ?_;(refine bc ?_);refine uy 9 rfl rfl rfl rfl rfl rfl rfl ?_;(refine bc ?_);refine DL (bs := [eh g]) (args := [aQ (eh g)]) (l := []) rfl rfl rfl rfl rfl aS (fun x aa j ae => by simp at aa; subst aa; exact absurd ae (jf _ j)) (fun k c h => by cases h) (bx.refl _) (fun k c x j h => by cases h) rfl (fun cb aH ay ak => ?_);obtain ⟨ar, bf, bm, ⟨rfl, cr⟩, rfl, rfl⟩ := ak;refine ⟨fun k c h => (by cases h), ?_⟩;rw [Fl bl cr, uT];(refine bc ?_)
 ((refine zO rfl (aY rfl aJ) (bx.refl _) rfl (Fk bl cr) ?_))
 exact ⟨ar, bf, bm, ⟨rfl, cr⟩, rfl, rfl⟩
theorem acb {s s1 : br.aT ao} (gT : s.ph = 2) (hp : gw E r rm 56 [] s mj s1) : gw E r rm 30 [] s (a7 true) s1 := by
 refine Fm rfl rfl fun cs R bl g e => ?_;have aS := Fo rfl hp bl g e;obtain ⟨ph, I, J, T, dirty, hot, fnd, ch⟩ := s;obtain rfl : ph = 2 := gT;obtain ⟨hv, fv, cv, b, S, lk, hS, db, gn, rfl, rfl⟩ := id bl;refine dE (f := 30) Tryz.func30 rfl (dA rfl) (by exact oo) ?_;(refine bc ?_);refine uy 9 rfl rfl rfl rfl rfl rfl rfl ?_;(refine bc ?_);refine uy 9 rfl rfl rfl rfl rfl rfl rfl ?_;(refine bc ?_);refine DL (bs := [eh g]) (args := [aQ (eh g)]) (l := []) rfl rfl rfl rfl rfl aS (fun x aa j ae => by simp at aa; subst aa; exact absurd ae (jf _ j)) (fun k c h => by cases h) (bx.refl _) (fun k c x j h => by cases h) rfl (fun cb aH ay ak => ?_);obtain ⟨ar, bf, bm, ⟨rfl, cr⟩, rfl, rfl⟩ := ak;refine ⟨fun k c h => (by cases h), ?_⟩;rw [Fl bl cr, uT];(refine bc ?_)
 ((refine zO rfl (aY rfl aJ) (bx.refl _) rfl (Fk bl cr) ?_))
 exact ⟨ar, bf, bm, ⟨rfl, cr⟩, rfl, rfl⟩
theorem acd {s s1 : br.aT ao} (gT : s.ph = 3) (hp : gw E r rm 57 [] s mj s1) : gw E r rm 30 [] s (a7 true) s1 := by
 refine Fm rfl rfl fun cs R bl g e => ?_;have aS := Fo rfl hp bl g e;obtain ⟨ph, I, J, T, dirty, hot, fnd, ch⟩ := s;obtain rfl : ph = 3 := gT;obtain ⟨hv, fv, cv, b, S, lk, hS, db, gn, rfl, rfl⟩ := id bl;refine dE (f := 30) Tryz.func30 rfl (dA rfl) (by exact oo) ?_;(refine bc ?_);refine uy 9 rfl rfl rfl rfl rfl rfl rfl ?_;(refine bc ?_);refine uy 9 rfl rfl rfl rfl rfl rfl rfl ?_;(refine bc ?_);refine DL (bs := [eh g]) (args := [aQ (eh g)]) (l := []) rfl rfl rfl rfl rfl aS (fun x aa j ae => by simp at aa; subst aa; exact absurd ae (jf _ j)) (fun k c h => by cases h) (bx.refl _) (fun k c x j h => by cases h) rfl (fun cb aH ay ak => ?_);obtain ⟨ar, bf, bm, ⟨rfl, cr⟩, rfl, rfl⟩ := ak;refine ⟨fun k c h => (by cases h), ?_⟩;rw [Fl bl cr, uT];(refine bc ?_)
 ((refine zO rfl (aY rfl aJ) (bx.refl _) rfl (Fk bl cr) ?_))
 exact ⟨ar, bf, bm, ⟨rfl, cr⟩, rfl, rfl⟩
theorem PP {s : br.aT ao} (gT : 4 ≤ s.ph) (akI : s.ph ≤ 5) : gw E r rm 30 [] s (a7 false) s := by
 intro cs R bl;obtain ⟨hv, fv, cv, b, S, lk, hS, db, gn, rfl, rfl⟩ := id bl;have aD : (s.ph : Int) ≥ 4 := by omega
 refine dE (f := 30) Tryz.func30 rfl (dA rfl) (by exact ew rfl) ?_;(refine bc ?_)
 ((refine eT rfl (aY rfl aJ) rfl (bx.refl _) bl.closed rfl fm ?_))
 exact ⟨_, rfl, rfl, bl⟩
end
section
variable {E : List (Int × bO)} {r rm : Nat}
abbrev nB (E : List (Int × bO)) (r rm : Nat) (s : br.aT ao) : Prop := ha (bt E r rm) (EJ (E.map Prod.snd) r) s
structure hA (E : List (Int × bO)) (r rm : Nat) : Prop where
 r : r ≤ 28
 near : gJ (E.map Prod.snd) = true
 len : E.length ≤ 300
 pos : 1 ≤ rm
 room : rm ≤ 1024
theorem hA.ok (h : hA E r rm) : jw (bt E r rm) (EJ (E.map Prod.snd) r) := ahg h.r h.near
theorem hA.n (E : List (Int × bO)) (r rm : Nat) : (bt E r rm).n = E.length := iD ..
theorem hA.xp (h : hA E r rm) {s : br.aT ao} (ab : iX (bt E r rm) s) (hl : lU (bt E r rm) (EJ (E.map Prod.snd) r) s) : kZ s.ch := by
 have hlen := hl.len;rw [hA.n] at hlen;refine ⟨by have := h.len; omega, fun c aj => ?_⟩;obtain ⟨i, hi⟩ := j1 aj;have h1 := (Ng h.ok ab hl aj).1;have h2 : (bt E r rm).R = rm := rfl;have := h.room;exact ⟨(hl.ie i c hi).len, by omega⟩
theorem hA.hot (h : hA E r rm) {s : br.aT ao} (ab : iX (bt E r rm) s) : s.hot.length ≤ 1024 := by
 have h1 := ab.room;have h2 : (bt E r rm).R = rm := rfl;have := h.room;omega
theorem Jc {s : br.aT ao} (h : hA E r rm) (bl : nB E r rm s) : gw E r rm 30 [] s (a7 (decide (s.ph < 4))) (cJ (bt E r rm) s) := by
 obtain ⟨ab, aA | h1 | h2 | h3 | aD | cU⟩ := bl
 ·have e : cJ (bt E r rm) s = ou (bt E r rm) s := by simp only [cJ, aA.ph]
  rw [e, aA.ph];have hi := aA.I;rw [hA.n] at hi;exact ab9 aA.ph (acf h.r h.near h.len hi aA.dirty aA.fnd (h.hot ab) aA.ph)
 ·have e : cJ (bt E r rm) s = oF (bt E r rm) s := by simp only [cJ, h1.ph]
  rw [e, h1.ph];have hi := h1.J;rw [hA.n] at hi;exact aca h1.ph (ach h.r h.near h.len h1.ra hi h1.dirty h1.fnd (h.hot ab) h1.ph)
 ·obtain ⟨c, p, q, g1, g2, g3, ap⟩ := h2.link;have g4 := bN h2.T;generalize s.hot[s.T]'h2.T = x at g4
  have e : cJ (bt E r rm) s = ma (bt E r rm) s c p q (hf (bt E r rm) p q x s.fnd) := by
   simp only [cJ, h2.ph, n7, g1, g2, g3, g4]
  rw [e, h2.ph];have aj := h2.laid.ie _ _ g1;have hd := Ng h.ok ab h2.laid (dc g1);have aq : (bt E r rm).R = rm := rfl;have akM := h.room;obtain ⟨V, D⟩ := c;have hp := ab.hg _ (aj.hot p (dc g2));have ak := ab.hg _ (aj.hot q (dc g3));have aR := h.hot ab
  have xQ : (hf (bt E r rm) p q x s.fnd) = (s.hot.take (s.T + 1)).filter (hB (bt E r rm) p q) := by
   rw [NR g4, ap];unfold hf
   split <;> simp [*]
  refine acb h2.ph (aci h.r (h.xp ab h2.laid) g1 g2 g3 g4 (fun d lx => ?_) hp ak h2.dirty aR ?_ ?_ h2.ph)
  ·have := hd.2 d lx; omega
  ·rw [ap];refine ht (List.length_filter_le ..) ?_;rw [ei]; omega
  ·rw [xQ];exact (ab.nd.sublist (List.take_sublist ..)).filter _
 ·have e : cJ (bt E r rm) s = nX (bt E r rm) s := by simp only [cJ, h3.ph]
  rw [e, h3.ph];have aj := h.xp ab h3.laid;refine acd h3.ph (acg h.r aj ?_ h3.ra h3.J (fun l hl => ?_) h3.fnd (h.hot ab) h3.ph)
  ·have := h3.J;cases zI : s.ch with
   | nil => rw [zI] at this; simp [aP] at this
   | cons => exact j4 _
  ·obtain ⟨_, a1, a2⟩ := Eb h.ok h3.laid hl;exact ⟨ab.hg _ a1, ab.hg _ a2⟩
 ·have e : cJ (bt E r rm) s = s := by simp only [cJ, aD.ph]
  rw [e, aD.ph];exact PP (by rw [aD.ph]; decide) (by rw [aD.ph]; decide)
 ·have e : cJ (bt E r rm) s = s := by simp only [cJ, cU.ph]
  rw [e, cU.ph];exact PP (by rw [cU.ph]; decide) (by rw [cU.ph]; decide)
end
section
variable {E : List (Int × bO)} {r rm : Nat}
theorem Ja {s : br.aT ao} : gw E r rm 26 [] s (ax s.ph) s := by
 intro cs R bl;obtain ⟨hv, fv, cv, b, S, lk, hS, db, gn, rfl, rfl⟩ := id bl;refine dE (f := 26) Tryz.func26 rfl (dA rfl) (by exact ew rfl) ?_;(refine bc ?_)
 ((refine eT rfl (aY rfl aJ) rfl (bx.refl _) bl.closed rfl fm ?_))
 exact ⟨_, rfl, rfl, bl⟩
def U9 (E : List (Int × bO)) (r rm : Nat) (n : Int) (s : br.aT ao) (k : Nat) (R : aI) (aL : List (Nat × ah)) (bh : List (Nat × List AC)) : Prop :=
 ∃ (d : Nat) (s1 : br.aT ao) (hv fv cv : Value) (b : Nat) (S : e4) (lk : AC), k = n.toNat - d ∧ d ≤ n.toNat ∧ nB E r rm s1 ∧ eQ (bt E r rm) n.toNat s = ((eQ (bt E r rm) k s1).1 + d, (eQ (bt E r rm) k s1).2) ∧ dN E r rm s1 (eE E r rm s1.ph s1.I s1.J s1.T s1.dirty hv fv cv b lk) (dZ b S hv fv cv s1.hot s1.fnd s1.ch) ∧ lk.aZ = true ∧ R = dZ b S hv fv cv s1.hot s1.fnd s1.ch ∧ aL = [(0, sf), (1, ax n), (5, ax d)] ∧ bh = [(1000, eE E r rm s1.ph s1.I s1.J s1.T s1.dirty hv fv cv b lk)]
theorem D1 {s : br.aT ao} (h : hA E r rm) (hs : nB E r rm s) {n : Int} (aw : n ≤ 1000000000000) : gw E r rm 29 [ax n] s (ax (eQ (bt E r rm) n.toNat s).1) (eQ (bt E r rm) n.toNat s).2 := by
 intro cs R bl;obtain ⟨hv, fv, cv, b, S, lk, hS, db, gn, rfl, rfl⟩ := id bl;refine dE (f := 29) Tryz.func29 rfl (dA rfl) (by exact ew rfl) ?_;(refine bc ?_);refine kw 16 (U9 E r rm n s) n.toNat (dZ b S hv fv cv s.hot s.fnd s.ch) _ [(1000, eE E r rm s.ph s.I s.J s.T s.dirty hv fv cv b lk)] ⟨0, s, hv, fv, cv, b, S, lk, rfl, dJ _, hs, rfl, bl, db, rfl, rfl, rfl⟩ (bx.refl _) rfl ⟨rfl, rfl, rfl, trivial⟩ ⟨rfl, trivial⟩ ?_ ?_
 ·cases lk <;> first | rfl | cases db
 clear bl hS db gn;rintro k R aL bh ⟨d, s1, hv, fv, cv, b, S, lk, rfl, hd, ux, fW, bl, db, rfl, rfl, rfl⟩ c9;clear c9
 by_cases bb : d < n.toNat
 ·have q1 : (d : Int) < n := by omega
  have q0 : (0 : Int) ≤ (d : Int) := by omega
  obtain ⟨ba, oz⟩ : ∃ ba, n.toNat - d = ba + 1 := ⟨n.toNat - d - 1, by omega⟩;have aS := Jc h ux;have hinv := (wS h.ok ux)
  by_cases aD : s1.ph < 4
  ·rw [cd aD] at aS;(repeat first | refine cG ?_ | (with_reducible apply fX); rfl; (repeat first | refine gu ?_ | (with_reducible apply bP (c := true)); rfl; rfl; (exact cd (by omega))); (with_reducible apply fC));refine iO rfl rfl rfl rfl rfl rfl rfl rfl aS bl (fun ar ay cr => ?_);obtain ⟨b8, dq, df, bE, dw, ho, fU, hD, je, rfl, rfl⟩ := id cr;(refine bc ?_);refine ⟨ba, _, _, [(1000, eE E r rm (cJ (bt E r rm) s1).ph (cJ (bt E r rm) s1).I (cJ (bt E r rm) s1).J (cJ (bt E r rm) s1).T (cJ (bt E r rm) s1).dirty b8 dq df bE ho)], by omega, ⟨d + 1, cJ (bt E r rm) s1, b8, dq, df, bE, dw, ho, by omega, by omega, hinv.1, ?_, cr, hD, rfl, rfl, rfl⟩, bx.refl _, rfl, ⟨rfl, rfl, rfl, trivial⟩, ⟨rfl, trivial⟩, ?_⟩
   ·rw [fW, oz];have Dc : ¬ 4 ≤ s1.ph := by omega
    have e : eQ (bt E r rm) (ba + 1) s1 = ((eQ (bt E r rm) ba (cJ (bt E r rm) s1)).1 + 1, (eQ (bt E r rm) ba (cJ (bt E r rm) s1)).2) := if_neg Dc;rw [e];exact ku (by show _ + 1 + d = _ + (d + 1); omega) rfl
   ·cases ho <;> first | rfl | cases hD
  ·have Dc : 4 ≤ s1.ph := by omega
   rw [cA aD, hinv.2.2 Dc] at aS;rw [ahA Dc] at fW;have fW : eQ (bt E r rm) n.toNat s = (d, s1) := by rw [fW]; exact ku (j3 d) rfl
   (repeat first | refine cG ?_ | (with_reducible apply fX); rfl; (repeat first | refine gu ?_ | (with_reducible apply bP (c := true)); rfl; rfl; (exact cd (by omega))); (with_reducible apply fC));refine iO rfl rfl rfl rfl rfl rfl rfl rfl aS bl (fun ar ay cr => ?_);obtain ⟨b8, dq, df, bE, dw, ho, fU, hD, je, rfl, rfl⟩ := id cr;(refine bc ?_)
   ((refine eT rfl (aY rfl aJ) rfl (bx.refl _) cr.closed rfl fm ?_))
   refine ⟨_, rfl, ?_, ?_⟩
   ·rw [fW]; rfl
   ·rw [fW]; exact cr
 ·have q1 : ¬ (d : Int) < n := by omega
  have ik : n.toNat - d = 0 := by omega
  rw [ik] at fW;have fW : eQ (bt E r rm) n.toNat s = (d, s1) := by rw [fW]; exact ku (j3 d) rfl
  (repeat first | refine cG ?_ | (with_reducible apply fX); rfl; (repeat first | refine gu ?_ | (with_reducible apply bP (c := false)); rfl; rfl; (exact cA (by omega))); (with_reducible apply fC))
  ((refine eT rfl (aY rfl aJ) rfl (bx.refl _) bl.closed rfl fm ?_))
  refine ⟨_, rfl, ?_, ?_⟩
  ·rw [fW]; rfl
  ·rw [fW]; exact bl
def vG (ch : List (List ao × List Int)) : Int := ch.foldl (fun a c => max a (ql c.2)) 0
theorem XM {ch : List (List ao × List Int)} {k : Nat} {c : List ao × List Int} (h : ch[k]? = some c) : vG (ch.take (k + 1)) = max (vG (ch.take k)) (ql c.2) := by
 have af := (bL.1 h).1
 have e : ch.take (k + 1) = ch.take k ++ [c] := by
  rw [mM af, (bL.1 h).2]
 unfold vG;rw [e, List.foldl_append]; rfl
def Up (E : List (Int × bO)) (r rm : Nat) (s : br.aT ao) (hv fv cv : Value) (b : Nat) (S : e4) (lk : AC) (n : Nat) (R : aI) (aL : List (Nat × ah)) (bh : List (Nat × List AC)) : Prop :=
 ∃ (k : Nat) (ft d : Int), k ≤ s.ch.length ∧ n = s.ch.length - k ∧ ft = k ∧ d = vG (s.ch.take k) ∧ R = dZ b S hv fv cv s.hot s.fnd s.ch ∧ aL = [(3, ax d), (10, aQ cv), (11, ax s.ch.length), (12, ax ft)] ∧ bh = [(1000, eE E r rm s.ph s.I s.J s.T s.dirty hv fv cv b lk)]
theorem abY {s : br.aT ao} (aj : kZ s.ch) : gw E r rm 14 [] s (ax (vG s.ch)) s := by
 intro cs R bl;obtain ⟨hv, fv, cv, b, S, lk, hS, db, gn, rfl, rfl⟩ := id bl;refine dE (f := 14) Tryz.func14 rfl (dA rfl) (by exact ew rfl) ?_;(repeat first | refine cG ?_ | (with_reducible apply nR 3); (iterate 4 rfl); kernel_rfl; rfl);refine kw 22 (Up E r rm s hv fv cv b S lk) s.ch.length (dZ b S hv fv cv s.hot s.fnd s.ch) _ [(1000, eE E r rm s.ph s.I s.J s.T s.dirty hv fv cv b lk)] ⟨0, 0, 0, dJ _, rfl, rfl, rfl, rfl, rfl, rfl⟩ (bx.refl _) rfl ⟨rfl, rfl, rfl, rfl, trivial⟩ ⟨rfl, trivial⟩ ?_ ?_
 ·cases lk <;> first | rfl | cases db
 rintro n R aL bh ⟨k, ft, d, af, rfl, k8, mw, rfl, rfl, rfl⟩ c9;clear c9;have hlen := aj.1
 by_cases ak : k < s.ch.length
 ·obtain ⟨V, D, g1⟩ : ∃ V D, s.ch[k]? = some (V, D) := ⟨_, _, bN ak⟩;obtain ⟨iZ, ja⟩ := aj.2 _ (dc g1);simp only at iZ ja;obtain ⟨mR, sn⟩ := CG (ii := ft) k8 g1;have q2 : ft < (s.ch.length : Int) := by omega
  have bB : 0 ≤ ft := by omega
  have cS : 0 < s.ch.length := by omega
  have aB := XM g1;rw [← mw, show max d (ql (V, D).2) = if ql D > d then ql D else d by show max d (ql D) = _; split <;> omega] at aB;have aS := abX V D ja (by omega);(repeat first | refine cG ?_ | refine iF ?_ | (with_reducible apply jT 3); (iterate 4 rfl); (omega); (assumption); rfl; kernel_rfl; rfl | (with_reducible apply nS 3); (iterate 3 rfl); (assumption); assumption; rfl; kernel_rfl; rfl);refine ⟨s.ch.length - (k + 1), dZ b S hv fv cv s.hot s.fnd s.ch, _, [(1000, eE E r rm s.ph s.I s.J s.T s.dirty hv fv cv b lk)], by omega, ⟨k + 1, ft + 1, _, by omega, rfl, by omega, aB.symm, rfl, rfl, rfl⟩, bx.refl _, rfl, ⟨rfl, rfl, rfl, rfl, trivial⟩, ⟨rfl, trivial⟩, ?_⟩;cases lk <;> first | rfl | cases db
 ·have q2 : ¬ ft < (s.ch.length : Int) := by omega
  have dh : s.ch.take k = s.ch := h4 (by omega);rw [dh] at mw;(refine bc ?_)
  ((refine eT rfl (aY rfl aJ) rfl (bx.refl _) bl.closed rfl fm ?_))
  exact ⟨_, rfl, by rw [← mw]; rfl, bl⟩
end
theorem LG {n : Nat} {xs : List AC} (aw : n ≤ 900000) (aj : xs.all AC.aZ = true) (aa : xs.length = 2 * n) : pW ag 62 [cK 2 n xs] fun v q => ∃ v', v = aQ v' ∧ q = ⟨36, 2, v', n, xs⟩ := by
 refine GD rfl (fun v q h => by obtain ⟨v', rfl, _⟩ := h; rfl) ?_;refine dE (f := 62) Tryz.func62 rfl (dA rfl) (by exact oo) ?_;(refine bc ?_);refine Tm 4 rfl ?_;intro b ab;cases b with
 | true =>
  have aA := ab rfl;subst aA;have h1 := ks aa;subst h1;clear ab;refine oO 0 36 2 rfl ?_;(refine bc ?_)
  ((refine zP rfl (aY rfl aJ) rfl rfl (j4 _) ?_))
  exact ⟨.slice none 0 0, rfl, rfl⟩
 | false =>
  clear ab;(refine bc ?_);refine Pb 0 rfl rfl rfl rfl rfl (fun v0 pp => ?_);(refine bc ?_);refine rR 0 rfl rfl rfl rfl ?q1 ?q2 aj rfl (fun v1 hk => ?_)
  case q1 => exact lA (by show 0 + n ≤ 1000000; omega)
  case q2 => show (0 + n) * 16 ≤ 140737488355328; omega
  (refine bc ?_)
  ((refine zP rfl (aY rfl aJ) rfl rfl (j4 _) ?_))
  exact ⟨v1, rfl, by rw [List.nil_append, j3]⟩
theorem Vx {n : Nat} {xs : List AC} (aw : n ≤ 900000) (aj : xs.all AC.aZ = true) (aa : xs.length = 2 * n) : pW ag 63 [cK 2 n xs] fun v q => ∃ v', v = aQ v' ∧ q = ⟨34, 2, v', n, xs⟩ := by
 refine GD rfl (fun v q h => by obtain ⟨v', rfl, _⟩ := h; rfl) ?_;refine dE (f := 63) Tryz.func63 rfl (dA rfl) (by exact oo) ?_;(refine bc ?_);refine Tm 4 rfl ?_;intro b ab;cases b with
 | true =>
  have aA := ab rfl;subst aA;have h1 := ks aa;subst h1;clear ab;refine oO 0 34 2 rfl ?_;(refine bc ?_)
  ((refine zP rfl (aY rfl aJ) rfl rfl (j4 _) ?_))
  exact ⟨.slice none 0 0, rfl, rfl⟩
 | false =>
  clear ab;(refine bc ?_);refine Pb 0 rfl rfl rfl rfl rfl (fun v0 pp => ?_);(refine bc ?_);refine rR 0 rfl rfl rfl rfl ?q1 ?q2 aj rfl (fun v1 hk => ?_)
  case q1 => exact lA (by show 0 + n ≤ 1000000; omega)
  case q2 => show (0 + n) * 48 ≤ 140737488355328; omega
  (refine bc ?_)
  ((refine zP rfl (aY rfl aJ) rfl rfl (j4 _) ?_))
  exact ⟨v1, rfl, by rw [List.nil_append, j3]⟩
abbrev pT (k rm ph I J T : Int) (dirty : Bool) (hv fv cv : Value) : List AC := [.c (.int .i64 k), .c (.int .i64 rm), .c (.int .i64 ph), .c (.int .i64 I), .c (.int .i64 J), .c (.int .i64 T), .c (.bool dirty), .c hv, .c fv, .c cv]
abbrev tw (hv fv cv : Value) (hot fnd : List ao) (ch : List (List ao × List Int)) : aI := bI (bI (bC 1 (jh hv hot)) 2 (jh fv fnd)) 3 (xo cv ch)
abbrev mf (hv fv cv : Value) (hot fnd : List ao) (ch : List (List ao × List Int)) (R : aI) : aI := bI (bI (bI R 4 (jh hv hot)) 5 (jh fv fnd)) 6 (xo cv ch)
theorem ahb {hv fv cv : Value} {hot fnd : List ao} {ch : List (List ao × List Int)} {R : aI} : bI (mf hv fv cv hot fnd ch R) 6 (xo cv ch) = mf hv fv cv hot fnd ch R := by
 funext k
 by_cases ik : k = 6
 ·subst ik; rfl
 ·rw [ct _ _ ik]
theorem G1 (ch : List (List ao × List Int)) : (eG ch).length = 2 * ch.length := by
 unfold eG; induction ch with
 | nil => rfl
 | cons c l b9 => rw [List.flatMap_cons, cO, b9, jj]; show 2 + _ = _; omega
theorem Xn (ch : List (List ao × List Int)) : ∀ y ∈ eG ch, y.aZ = true := fun y ai => by
 obtain ⟨c, _, h⟩ := List.mem_flatMap.1 ai;simp only [qg, fl, pK, or_false] at h;rcases h with rfl | rfl <;> rfl
theorem PH (l : List ao) : ∀ y ∈ b3 l, y.aZ = true := cB.1 (wm l)
theorem Xp {ch : List (List ao × List Int)} {i : Nat} {V : List ao} {D : List Int} (h : ch[i]? = some (V, D)) : eI (eG ch) (2 * i) [.p (cM 2 V.length (b3 V)), .p (cM 1 D.length (cV D))] = eG ch := by
 have hi := (bL.1 h).1
 have e : ch = ch.take i ++ (V, D) :: ch.drop (i + 1) := by
  conv => lhs; rw [← kr i ch, nm hi, (bL.1 h).2]
 have aO : eG ch = eG (ch.take i) ++ ([.p (cM 2 V.length (b3 V)), .p (cM 1 D.length (cV D))] ++ eG (ch.drop (i + 1))) := by
  conv => lhs; rw [e]
  simp [eG, qg]
 have hl : (eG (ch.take i)).length = 2 * i := by rw [G1, ei]; congr 1; omega
 rw [aO, KB hl];simp
def Uo (hv fv cv b8 dq df : Value) (k rm ph I J T : Int) (dirty : Bool) (hot fnd : List ao) (ch : List (List ao × List Int)) (n : Nat) (R : aI) (aL : List (Nat × ah)) (bh : List (Nat × List AC)) : Prop :=
 ∃ (i : Nat) (ii : Int), i ≤ ch.length ∧ n = ch.length - i ∧ ii = i ∧ R = mf b8 dq df hot fnd ch (tw hv fv cv hot fnd ch) ∧ aL = [(1, .w (.one (.own 1 0))), (2, .w (.one (.own 2 0))), (18, aQ df), (19, ax ch.length), (20, ax ii)] ∧ bh = [(1, pT k rm ph I J T dirty b8 dq df), (2, pT 0 0 0 0 0 0 false (.slice none 0 0) (.slice none 0 0) (.slice none 0 0))]
theorem ace {k rm ph I J T : Int} {dirty : Bool} {hv fv cv : Value} {hot fnd : List ao} {ch : List (List ao × List Int)} (aR : hot.length ≤ 900000) (ap : fnd.length ≤ 900000) (aj : kZ ch) :
  du ag 34 [.w (.agg (pT k rm ph I J T dirty hv fv cv))] cj (tw hv fv cv hot fnd ch) fun cb aH ay => ∃ b8 dq df, cb = .w (.agg (pT k rm ph I J T dirty b8 dq df)) ∧ aH = cj ∧ ay = mf b8 dq df hot fnd ch (tw hv fv cv hot fnd ch) := by
 have hlen := aj.1;have gZ : ∀ aU : List AC, aU.length = (jh hv hot).aU.length → aU.all AC.aZ = true → pW ag 62 [cK 2 hot.length aU] fun v q => ∃ v', v = aQ v' ∧ q = ⟨36, 2, v', hot.length, aU⟩ := fun aU hl ai => LG aR ai (by rw [hl, oD, Nat.mul_comm]);have lg : ∀ aU : List AC, aU.length = (jh fv fnd).aU.length → aU.all AC.aZ = true → pW ag 62 [cK 2 fnd.length aU] fun v q => ∃ v', v = aQ v' ∧ q = ⟨36, 2, v', fnd.length, aU⟩ := fun aU hl ai => LG ap ai (by rw [hl, oD, Nat.mul_comm]);have vg : ∀ aU : List AC, aU.length = (xo cv ch).aU.length → aU.all AC.aZ = true → pW ag 63 [cK 2 ch.length aU] fun v q => ∃ v', v = aQ v' ∧ q = ⟨34, 2, v', ch.length, aU⟩ := fun aU hl ai => Vx (by omega) ai (by rw [hl, G1]);refine dE (f := 34) Tryz.func34 rfl (dA rfl) (by exact oo) ?_;(repeat first | (with_reducible apply mh (id := 1) [0,1,3,4,6,7,2,9,5,8,10,11,12,13,14] [7,10,13]); kernel_rfl; kernel_rfl; rfl | refine cG ?_);refine IE 1 4 (by decide) rfl rfl rfl rfl gZ rfl (j4 _) (PH _) rfl (fun b8 => ?_);(refine bc ?_);refine IE 2 5 (by decide) rfl rfl rfl rfl lg rfl (j4 _) (PH _) rfl (fun dq => ?_)
 skip
 refine IE 3 6 (by decide) rfl rfl rfl rfl vg rfl (j4 _) (Xn _) rfl (fun df => ?_);(repeat first | refine cG ?_ | (with_reducible apply nR 6); (iterate 4 rfl); kernel_rfl; rfl);refine kw 33 (Uo hv fv cv b8 dq df k rm ph I J T dirty hot fnd ch) ch.length (mf b8 dq df hot fnd ch (tw hv fv cv hot fnd ch)) _ [(1, pT k rm ph I J T dirty b8 dq df), (2, pT 0 0 0 0 0 0 false (.slice none 0 0) (.slice none 0 0) (.slice none 0 0))] ⟨0, 0, dJ _, rfl, rfl, rfl, rfl, rfl⟩ (bx.refl _) rfl ⟨rfl, rfl, rfl, rfl, rfl, trivial⟩ ⟨rfl, rfl, trivial⟩ rfl ?_;rintro n R aL bh ⟨i, ii, hi, rfl, gS, rfl, rfl, rfl⟩ c9;clear c9
 by_cases ak : i < ch.length
 ·obtain ⟨V, D, g1⟩ : ∃ V D, ch[i]? = some (V, D) := ⟨_, _, bN ak⟩;obtain ⟨iZ, ja⟩ := aj.2 _ (dc g1);simp only at iZ ja;obtain ⟨mR, sn⟩ := CG (ii := ii) gS g1;have aS := abW V D ja (by omega);have q2 : ii < (ch.length : Int) := by omega
  have bB : 0 ≤ ii := by omega
  have cS : 0 < ch.length := by omega
  have aG : ii.toNat * 2 = 2 * i := by omega
  have Iw : ii.toNat * 2 + 2 ≤ (eG ch).length := by rw [G1]; omega
  have cl : eI (eG ch) (ii.toNat * 2) [.p (cM 2 V.length (b3 V)), .p (cM 1 D.length (cV D))] = eG ch := by rw [aG]; exact Xp g1
  (repeat first | (with_reducible apply mh (id := 5) [0,1,2,3,4,5,6] [4000000]); kernel_rfl; kernel_rfl; rfl | refine cG ?_ | refine iF ?_ | (with_reducible apply jT 6); (iterate 4 rfl); (omega); (assumption); rfl; kernel_rfl; rfl | (with_reducible apply nS 6); (iterate 3 rfl); (assumption); assumption; rfl; kernel_rfl; rfl);refine Ak 6 rfl rfl rfl rfl cS rfl rfl Iw rfl ?_;(refine bc ?_);refine ⟨ch.length - (i + 1), mf b8 dq df hot fnd ch (tw hv fv cv hot fnd ch), _, [(1, pT k rm ph I J T dirty b8 dq df), (2, pT 0 0 0 0 0 0 false (.slice none 0 0) (.slice none 0 0) (.slice none 0 0))], by omega, ⟨i + 1, ii + 1, by omega, rfl, by omega, rfl, rfl, rfl⟩, fun k q af => ?_, rfl, ⟨rfl, rfl, rfl, rfl, rfl, trivial⟩, ⟨rfl, rfl, trivial⟩, rfl⟩
  have ey : bI (mf b8 dq df hot fnd ch (tw hv fv cv hot fnd ch)) 6 (⟨34, 2, df, ch.length, eI (eG ch) (ii.toNat * 2) [.p (cM 2 V.length (b3 V)), .p (cM 1 D.length (cV D))]⟩ : bG) = mf b8 dq df hot fnd ch (tw hv fv cv hot fnd ch) := by
   rw [cl]; exact ahb
  exact (congrFun ey k).trans af
 ·have q2 : ¬ ii < (ch.length : Int) := by omega
  (refine bc ?_)
  ((refine zO rfl (cD rfl rfl rfl aJ) (bx.refl _) rfl (fun j q h => ?_) ?_))
  ·match j with
   | 0 => cases h
   | 1 => exact ⟨_, rfl⟩
   | 2 => exact ⟨_, rfl⟩
   | 3 => exact ⟨_, rfl⟩
   | j + 4 => cases h
  ·exact ⟨b8, dq, df, rfl, rfl, rfl⟩
theorem ag4 {b : Nat} {S : e4} {hv fv cv : Value} {hot fnd : List ao} {ch : List (List ao × List Int)} : bx (tw hv fv cv hot fnd ch) (dZ b S hv fv cv hot fnd ch)
 | 0, _, h => by cases h
 | 1, _, h => h
 | 2, _, h => h
 | 3, _, h => h
 | k + 4, _, h => by cases h
theorem ahd {b : Nat} {S : e4} {hv fv cv b8 dq df : Value} {hot fnd : List ao} {ch : List (List ao × List Int)} : bX (mf b8 dq df hot fnd ch (tw hv fv cv hot fnd ch)) (dZ b S hv fv cv hot fnd ch) = mf b8 dq df hot fnd ch (dZ b S hv fv cv hot fnd ch) := by
 funext i
 match i with
 | 0 => rfl
 | 1 => rfl
 | 2 => rfl
 | 3 => rfl
 | 4 => rfl
 | 5 => rfl
 | 6 => rfl
 | i + 7 => rfl
theorem ahc {hv fv cv : Value} {hot fnd : List ao} {ch : List (List ao × List Int)} {R : aI} : ∀ i r, R i = some r → ∃ aV, mf hv fv cv hot fnd ch R i = some aV := fun i r h => by
 by_cases nE : i = 6
 ·subst nE; exact ⟨_, cF _ _ _⟩
 ·by_cases k2 : i = 5
  ·subst k2; exact ⟨_, rfl⟩
  ·by_cases ey : i = 4
   ·subst ey; exact ⟨_, rfl⟩
   ·exact ⟨r, by unfold mf; rw [ct _ _ nE, ct _ _ k2, ct _ _ ey]; exact h⟩
section
variable {E : List (Int × bO)} {r rm : Nat}
theorem ab7 {s : br.aT ao} (aR : s.hot.length ≤ 900000) (ap : s.fnd.length ≤ 900000) (aj : kZ s.ch) {cs : List AC} {R : aI} (bl : dN E r rm s cs R) :
  du ag 11 [sf] (cZ 1000 cs) R (oX 1000 fun cb ar ay => ∃ hv fv cv, cb = .w (.agg (pT r rm s.ph s.I s.J s.T s.dirty hv fv cv)) ∧ ar = cs ∧ ay = mf hv fv cv s.hot s.fnd s.ch R) := by
 obtain ⟨hv, fv, cv, b, S, lk, hS, db, gn, rfl, rfl⟩ := id bl;have aS := ace (k := (r : Int)) (rm := (rm : Int)) (ph := (s.ph : Int)) (I := (s.I : Int)) (J := (s.J : Int)) (T := (s.T : Int)) (dirty := s.dirty) (hv := hv) (fv := fv) (cv := cv) aR ap aj;refine dE (f := 11) Tryz.func11 rfl (dA rfl) (by exact ew rfl) ?_;(refine bc ?_);refine O8 (l := _) (args := [_]) rfl rfl rfl rfl aS ag4 rfl rfl ?_;rintro _ _ _ ⟨b8, dq, df, rfl, rfl, rfl⟩;refine ⟨rfl, ?_⟩;rw [ahd];(refine bc ?_)
 ((refine eT rfl (cD rfl rfl rfl aJ) rfl (bx.refl _) bl.closed rfl ahc ?_))
 exact ⟨_, rfl, b8, dq, df, rfl, rfl, rfl⟩
end
instance ak5 : lm ag 69 68 5 40 := ⟨by kernel_rfl⟩
abbrev KM : ah := aQ (.func (.func 86) #[] #[])
theorem RH {x y : Int} : au ag 87 [aE x y] (a7 (gD (x, y))) := by
 have cs : ((if y < x then y else x) ≥ -134217728 ∧ gD (x, y) = decide ((if y > x then y else x) < 134217728)) ∨ (¬ (if y < x then y else x) ≥ -134217728 ∧ gD (x, y) = false) := by
  by_cases h : (if y < x then y else x) ≥ -134217728
  ·refine .inl ⟨h, ?_⟩;rw [kR, qK, decide_eq_true_iff];show ((_ ≤ x ∧ x < _) ∧ _ ≤ y ∧ y < _) ↔ _
   split at h <;> split <;> omega
  ·refine .inr ⟨h, ?_⟩;cases aw : gD (x, y) with
   | false => rfl
   | true =>
    obtain ⟨⟨a1, a2⟩, a3, a4⟩ : ((_ ≤ x ∧ x < _) ∧ _ ≤ y ∧ y < _) := qK.1 aw
    split at h <;> omega
 rcases cs with ⟨h, e⟩ | ⟨h, e⟩
 all_goals
  rw [e];refine bd (f := 87) Tryz.func87 rfl rfl rfl rfl ?_;(repeat first | refine dv ?_ | (with_reducible apply bP (c := true)); rfl; rfl; (exact cd (by omega)) | (with_reducible apply bP (c := false)); rfl; rfl; (exact cA (by omega)))
  ((refine aW rfl (aY rfl aJ) ?_))
  exact ah.aK.refl _
abbrev xk (x : Int × bO) : Bool := !(gD x.2.1 && gD x.2.2)
theorem afa {o a b c d : Int} : au ag 86 [.w (.agg [.c (.int .i64 a), .c (.int .i64 b), .c (.int .i64 c), .c (.int .i64 d), .c (.int .i64 o)])] (a7 (xk (o, (a, b), (c, d)))) := by
 have aS := RH (x := a) (y := b);have bD := RH (x := c) (y := d);unfold xk;simp only;cases h1 : gD (a, b) with
 | true =>
  rw [h1] at aS;rw [oN];refine bd (f := 86) Tryz.func86 rfl rfl rfl rfl ?_;(refine bS ?_)
  ((refine aW rfl (aY rfl aJ) ?_))
  exact ah.aK.refl _
 | false =>
  rw [h1] at aS;rw [Bool.false_and];refine bd (f := 86) Tryz.func86 rfl rfl rfl rfl ?_;(refine bS ?_)
  ((refine aW rfl (aY rfl aJ) ?_))
  exact ah.aK.refl _
def uf : List (Int × bO) → Int → Int
 | [], _ => -1
 | p :: l, i => if xk p = true then i else uf l (i + 1)
theorem N5 (p : Int × bO) (l : List (Int × bO)) (i : Int) : uf (p :: l) i = if xk p = true then i else uf l (i + 1) := rfl
theorem N4 : ∀ (l : List (Int × bO)) (i : Int), 0 ≤ i → (decide (uf l i ≥ 0)) = !gJ (l.map Prod.snd)
 | [], i, h => rfl
 | p :: l, i, h => by
  have b9 := N4 l (i + 1) (by omega);have e : gJ ((p :: l).map Prod.snd) = ((gD p.2.1 && gD p.2.2) && gJ (l.map Prod.snd)) := rfl;rw [e, N5];unfold xk;cases hp : (gD p.2.1 && gD p.2.2) with
  | false => rw [if_pos (show (!false) = true from rfl), Bool.false_and]; exact cd h
  | true => rw [if_neg (by decide), oN]; exact b9
def Uz (E : List (Int × bO)) (k : Nat) (aL : List (Nat × ah)) (bh : List (Nat × List AC)) : Prop :=
 ∃ (i : Nat) (ii : Int), i ≤ E.length ∧ k = E.length - i ∧ ii = i ∧ uf E 0 = uf (E.drop i) ii ∧ bh = [] ∧ aL = [(0, gX E), (1, KM), (7, ax E.length), (8, ax ii)]
theorem afy {E : List (Int × bO)} (al : E.length ≤ 4611686018427387904) : au ag 120 [gX E, KM] (ax (uf E 0)) := by
 refine bd (f := 120) Tryz.func120 rfl rfl rfl rfl ?_;(refine eF ?_);refine sD 19 (Uz E) E.length _ [] ⟨0, 0, dJ _, rfl, rfl, rfl, rfl, rfl⟩ rfl ⟨rfl, rfl, rfl, rfl, trivial⟩ trivial rfl ?_;rintro n aL bh ⟨j, eC, ae, rfl, pg, gR, rfl, rfl⟩ c9;clear c9
 by_cases hp : j < E.length
 ·have p2 : eC < (E.length : Int) := by omega
  have p3 : 0 ≤ eC := by omega
  obtain ⟨o, a, b, c, d, g1⟩ : ∃ o a b c d, E[j]? = some (o, (a, b), (c, d)) := ⟨_, _, _, _, _, bN hp⟩;have mR := sI pg g1;have hd : E.drop j = (o, (a, b), (c, d)) :: E.drop (j + 1) := by rw [nm hp, (bL.1 g1).2]
  have j7 := afa (o := o) (a := a) (b := b) (c := c) (d := d);rw [hd, N5] at gR;cases ap : xk (o, (a, b), (c, d)) with
  | true =>
   rw [ap] at gR j7;rw [if_pos rfl] at gR;rw [gR];(refine bS ?_)
   ((refine aW rfl (aY rfl aJ) ?_))
   exact ah.aK.refl _
  | false =>
   rw [ap] at gR j7;rw [if_neg (by simp)] at gR;(refine bS ?_);exact ⟨E.length - (j + 1), _, [], by omega, ⟨j + 1, eC + 1, hp, rfl, by omega, gR, rfl, rfl⟩, rfl, ⟨rfl, rfl, rfl, rfl, trivial⟩, trivial, rfl⟩
 ·have e : j = E.length := by omega
  subst e;rw [List.drop_length] at gR;rw [show uf [] eC = -1 from rfl] at gR;rw [gR];(refine eF ?_)
  ((refine aW rfl (aY rfl aJ) ?_))
  exact ah.aK.refl _
theorem afh {E : List (Int × bO)} (al : E.length ≤ 4611686018427387904) : au ag 85 [gX E, KM] (a7 (!gJ (E.map Prod.snd))) := by
 have j7 := afy al;rw [← N4 E 0 (by decide)];refine bd (f := 85) Tryz.func85 rfl rfl rfl rfl ?_;(refine bS ?_)
 ((refine aW rfl (aY rfl aJ) ?_))
 exact ah.aK.refl _
theorem ae9 {E : List (Int × bO)} (al : E.length ≤ 4611686018427387904) : au ag 49 [gX E] (a7 (gJ (E.map Prod.snd))) := by
 have j7 := afh al;have e : gJ (E.map Prod.snd) = !(!gJ (E.map Prod.snd)) := (Bool.not_not _).symm;rw [e];generalize (!gJ (E.map Prod.snd)) = q at *;refine bd (f := 49) Tryz.func49 rfl rfl rfl rfl ?_;(refine bS ?_)
 ((refine aW rfl (aY rfl aJ) ?_))
 exact ah.aK.refl _
theorem afg {E : List (Int × bO)} (al : E.length ≤ 900000) : au ag 51 [gX E] (gX E) := by
 refine bd (f := 51) Tryz.func51 rfl rfl rfl rfl ?_;(refine eF ?_);refine WY 4 rfl ?_;intro b ab;cases b with
 | true =>
  have aA := ks (ab rfl);subst aA;clear ab;(refine eF ?_)
  ((refine aW rfl (aY rfl aJ) ?_))
  exact QV 5
 | false =>
  clear ab;have z0 : 0 + E.length = E.length := j3 _;(repeat first | (with_reducible apply Wt); rfl; rfl | (with_reducible apply VQ); (iterate 3 rfl); (exact lA (by omega)); (omega); (assumption); (rfl); rfl | refine dv ?_)
  ((refine aW rfl (aY rfl aJ) ?_))
  exact ah.aK.refl _
section
variable {P : Program} {f : FuncId} {args : List ah} {cs : List AC} {R0 : aI} {Q : ah → List AC → aI → Prop}
theorem du.at (k : Nat) (h : du P f (sf :: args) (cZ 1000 cs) R0 (oX 1000 Q)) (eo : args.all ah.aZ = true) (aj : cs.all AC.aZ = true) (ak : ∀ cb ds ay, Q cb ds ay → cb.aZ = true ∧ ds.all AC.aZ = true) : du P f (.w (.one (.own k 0)) :: args) (cZ k cs) R0 (oX k Q) := by
 have h1 := h.a6 (nv 1000 k) (ca := fun j => j) (iV := fun j => j) (fun _ => rfl) (fun _ => rfl)
 have aG : (ah.w (.one (.own 1000 0)) :: args).map (ah.a6 (swp 1000 k)) = .w (.one (.own k 0)) :: args := by
  have aO : args.map (ah.a6 (swp 1000 k)) = args := by
   conv => rhs; rw [← List.map_id args]
   exact np fun x aa => u6 (cB.1 eo x aa)
  rw [jJ, aO];show ah.w (.one (.own (swp 1000 k 1000) 0)) :: args = _;rw [show swp 1000 k 1000 = k by unfold swp; simp]
 rw [aG, wx aj] at h1;refine ⟨fun U ad W vs cq cy cW => (h1.call U ad W vs cq cy cW).mono ?_⟩;rintro dh bk ⟨v, r, aH, ay, aX, cR, q0, ⟨bV, m1, bf, ⟨ds, rfl, uw⟩, rfl, rfl, rfl⟩, mK⟩;obtain ⟨c1, c2⟩ := ak _ _ _ uw;rw [wx c2, u6 c1] at mK;exact ⟨v, bV, cZ k ds, bf, aX, cR, q0, ⟨ds, rfl, uw⟩, mK⟩
end
def eV (k : Int) : Nat := (if k < 0 then 0 else if 28 < k then 28 else k).toNat
def ef (n : Int) : Nat := (mg n).toNat
theorem Kf (n : Int) : ((ef n : Nat) : Int) = mg n := by unfold ef mg; (repeat split) <;> omega
theorem SY (n : Int) : 1 ≤ ef n ∧ ef n ≤ 1024 := by unfold ef mg; (repeat split) <;> omega
theorem ag5 (k : Int) : ((eV k : Nat) : Int) = if 28 < (if 0 > k then 0 else k) then 28 else (if 0 > k then 0 else k) := by unfold eV; (repeat split) <;> omega
theorem Kd (k : Int) : eV k ≤ 28 := by unfold eV; (repeat split) <;> omega
theorem Fj {E : List (Int × bO)} {k n : Int} (h : gJ (E.map Prod.snd) = true) (hl : E.length ≤ 300) : hA E (eV k) (ef n) := ⟨Kd k, h, hl, (SY n).1, (SY n).2⟩
abbrev kn : Value := .slice none 0 0
theorem QT {b : Nat} {S : e4} {q : bG} : dZ b S kn kn kn [] [] [] = bI (bI (bI (bI (bI eU 1 ⟨36, 2, kn, 0, []⟩) 2 ⟨36, 2, kn, 0, []⟩) 3 ⟨34, 2, kn, 0, []⟩) 0 q) 0 (jH (eh b) S) := by
 funext i
 match i with
 | 0 => rfl
 | 1 => rfl
 | 2 => rfl
 | 3 => rfl
 | i + 4 => rfl
theorem ab3 {E : List (Int × bO)} {k n : Int} (hl : E.length ≤ 300) (h : gJ (E.map Prod.snd) = true) : du ag 28 [gX E, ax k, ax n] cj eU fun cb aH ay => ∃ cs, cb = .w (.one (.own 24 0)) ∧ aH = cZ 24 cs ∧ dN E (eV k) (ef n) (fk (bt E (eV k) (ef n))) cs ay := by
 have aS := ae9 (E := E) (by omega);rw [h] at aS;have bD := ab2 n;have dW := afg (E := E) (by omega);have ik := ag5 k
 by_cases aA : E = []
 ·subst aA;refine dE (f := 28) Tryz.func28 rfl (dA rfl) (by exact oo) ?_;refine oO 1 36 2 rfl ?_;refine oO 2 36 2 rfl ?_;refine oO 3 34 2 rfl ?_;(refine oV ?_);refine Pf 0 rfl rfl rfl rfl bD rfl rfl (fun p S kh => ?_);obtain ⟨b, rfl, hS⟩ := kh;rw [← Kf n] at hS;have js := PO _ _ _ _ hS (by decide);(refine oV ?_);refine Al 0 rfl rfl rfl rfl js rfl rfl rfl (fun v dw h => ?_);obtain ⟨rfl, fU⟩ := h;(refine bc ?_);have mQ := du.at 24 (Jd (E := []) (k := (eV k : Int)) (rm := (ef n : Int)) (ph := 0) (I := 0) (J := 0) (T := 0) (dirty := false) (hv := kn) (fv := kn) (cv := kn) (b := b) (lk := .c kn) rfl 4) rfl rfl (fun cb ds ay h => by obtain ⟨rfl, rfl, _⟩ := h; exact ⟨rfl, rfl⟩);rw [← ik];refine kL 24 rfl rfl rfl rfl mQ rfl rfl rfl rfl rfl ?_;(refine bc ?_)
  ((refine Dx 24 rfl (aY rfl aJ) rfl (bx.of_eq QT) rfl rfl ?_))
  exact ⟨_, rfl, rfl, kn, kn, kn, b, dw, .c kn, fU, rfl, fun h => (by cases h), rfl, rfl⟩
 ·have fa : ¬ (E.length : Int) = 0 := fun aR => aA (ks (by omega));refine dE (f := 28) Tryz.func28 rfl (dA rfl) (by exact oo) ?_;refine oO 1 36 2 rfl ?_;refine oO 2 36 2 rfl ?_;refine oO 3 34 2 rfl ?_;(refine oV ?_);refine Pf 0 rfl rfl rfl rfl bD rfl rfl (fun p S kh => ?_);obtain ⟨b, rfl, hS⟩ := kh;rw [← Kf n] at hS;have js := PO _ _ _ _ hS (by decide);(refine oV ?_);refine Al 0 rfl rfl rfl rfl js rfl rfl rfl (fun v dw h => ?_);obtain ⟨rfl, fU⟩ := h;(refine bc ?_);rw [← ik]
  ((refine Dx 24 rfl (aY rfl aJ) rfl (bx.of_eq QT) rfl rfl ?_))
  refine ⟨_, rfl, rfl, kn, kn, kn, b, dw, .c kn, fU, rfl, ?_, ?_, rfl⟩
  ·unfold fk;rw [if_neg (by rw [hA.n]; omega)];intro h; cases h
  ·unfold fk;rw [if_neg (by rw [hA.n]; omega)]; rfl
end Go.Proofs.YtbcecodakfejaaaGreat
