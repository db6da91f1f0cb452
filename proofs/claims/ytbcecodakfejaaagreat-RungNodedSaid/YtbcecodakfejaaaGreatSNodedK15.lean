/-
  My own texts, without what this claim does not need. My own text.
-/
import Derived.Test.YtbcecodakfejaaaGreatSNodedK14
set_option maxRecDepth 100000
set_option maxHeartbeats 64000000
set_option linter.unusedVariables false
set_option linter.unusedSimpArgs false
set_option linter.unusedSectionVars false
open Go.Proofs.Tryz renaming prog → ag
namespace Go.Proofs.YtbcecodakfejaaaGreat
open Go.RowKit
open bu
section
variable {E : List (Int × bS)} {r rm : Nat}
theorem QZ {b : Nat} {S : e0} {hv fv cv v : Value} {hot fnd : List ao} {ch l : List (List ao × List Int)} : bK (dP b S hv fv cv hot fnd ch) 3 (wE v l) = dP b S hv fv v hot fnd l := by
  funext i
  match i with
  | 0 => rfl
  | 1 => rfl
  | 2 => rfl
  | 3 => rfl
  | i + 4 => rfl
theorem K6 {ch : List (List ao × List Int)} {i : Nat} {ii : Int} {V : List ao} {D : List Int} (hi : ii = i) (h : i < ch.length) : eD (ev ch) (ii.toNat * 2) [.p (cc 2 V.length (bP V)), .p (cc 1 D.length (cA D))] = ev (ch.set i (V, D)) := by
  subst hi;rw [kK];have e : ch = ch.take i ++ ch[i] :: ch.drop (i + 1) := by rw [← mN h, j2]
  have ak : (ev (ch.take i)).length = i * 2 := by
    have := B0 (f := ox) (z := 2) (fun _ => rfl) (ch.take i);unfold ev;rw [this, dK, o8 (by omega)]
  have aF : ev ch = ev (ch.take i) ++ (ox ch[i] ++ ev (ch.drop (i + 1))) := (congrArg ev e).trans (by unfold ev; rw [List.flatMap_append, List.flatMap_cons]);rw [aF, IR ak, List.set_eq_take_append_cons_drop, if_pos h];simp [ev, ox]
theorem WG {p q : ao} {bi : List ao} (ax : bi.Nodup) : iL (dL (decide ((2 : Int) ^ r * q.1 < 2 ^ r * p.1)) (decide ((2 : Int) ^ r * q.2 < 2 ^ r * p.2))) bi = fL p q bi := by
  rw [BZ, BZ];exact agr ax (by rw [List.filter_eq_self.2 (fun _ _ => rfl)])
theorem aac {s : bu.aV ao} {V : List ao} {D : List Int} {p q x : ao} (ap : r ≤ 28) (aj : jD s.ch) (g1 : s.ch[s.I]? = some (V, D)) (g2 : V[s.J]? = some p) (g3 : V[s.J + 1]? = some q) (g4 : s.hot[s.T]? = some x) (eK : ∀ d ∈ D, 1 ≤ d ∧ d ≤ 1048576)
    (hp : eM r p.1 p.2 = true) (al : eM r q.1 q.2 = true) (hd : s.dirty = false) (aU : s.hot.length ≤ 1024) (w4 : s.fnd.length ≤ 1024) (w5 : (ln (bx E r rm) p q x s.fnd).Nodup) (ho : s.ph = 2) : gg E r rm 56 [] s lJ (sf (bx E r rm) s (V, D) p q (ln (bx E r rm) p q x s.fnd)) := by
  obtain ⟨p1, p2⟩ := p;obtain ⟨q1, q2⟩ := q;obtain ⟨ct, cz⟩ := x;obtain ⟨hj, gE⟩ := aj.2 _ (c7 g1);simp only at hj gE;have bj := (bM.1 g1).1;have kB := (bM.1 g3).1;have cK := (bM.1 g4).1;have aw : gB (r : Int) r := ⟨ap, .inr (.inr rfl)⟩;have aT := PY (D := D) g2 g3 (by omega);have bH := adF (E := E.map Prod.snd) (R := rm) ap (p := (p1, p2)) (q := (q1, q2)) (x := (ct, cz)) hp al;have et := Dy (sv aw hp) (sv aw al);simp only at bH et;have ld := acq (a1 := 2 ^ r * p1) (a2 := 2 ^ r * p2) (b1 := 2 ^ r * q1) (b2 := 2 ^ r * q2);obtain ⟨lN, rq⟩ := BF (ii := (s.I : Int)) rfl g1;have SB := Zr (ii := (s.T : Int)) rfl g4;have i0 : (0 : Int) ≤ (s.I : Int) := by omega
  have i1 : (s.I : Int) < (s.ch.length : Int) := by omega
  have i2 : 0 < s.ch.length := by omega
  have t0 : (0 : Int) ≤ (s.T : Int) := by omega
  have t1 : (s.T : Int) < (s.hot.length : Int) := by omega
  have t2 : 0 < s.hot.length := by omega
  have Xg : (s.J : Int) ≤ 1100 := by omega
  have cZ := aj.1
 
  have split : ∀ bi : List ao, bi = ln (bx E r rm) (p1, p2) (q1, q2) (ct, cz) s.fnd → bi ≠ [] → bi.length ≤ 1100 → aC ag 100 [gA bi, vT (decide ((2 : Int) ^ r * q1 < 2 ^ r * p1)) (decide ((2 : Int) ^ r * q2 < 2 ^ r * p2))] (gA (fL (p1, p2) (q1, q2) bi)) ∧
      aC ag 99 [mT V D, aH s.J, gA (fL (p1, p2) (q1, q2) bi)] (.cr [.agg [.p (cc 2 (bu.dl V s.J (fL (p1, p2) (q1, q2) bi)).length (bP (bu.dl V s.J (fL (p1, p2) (q1, q2) bi)))), .p (cc 1 (ey D s.J bi.length).length (cA (ey D s.J bi.length)))], .one (.c (.bool true))]) := by
    intro bi X4 bU X0;have ax : bi.Nodup := by rw [X4]; exact w5
    have hlen : (fL (p1, p2) (q1, q2) bi).length = bi.length := (Ax _ _ bi).length_eq;refine ⟨?_, ?_⟩
    · have := acZ (fx := decide ((2 : Int) ^ r * q1 < 2 ^ r * p1)) (fy := decide ((2 : Int) ^ r * q2 < 2 ^ r * p2)) 1100 bi X0 (by omega)
      rw [WG (p := (p1, p2)) (q := (q1, q2)) ax] at this;exact this
    · have := Z1 V D s.J (fL (p1, p2) (q1, q2) bi) hj gE (by omega) (by omega) eK
      have GL : (fL (p1, p2) (q1, q2) bi).isEmpty = false := by
        cases h : fL (p1, p2) (q1, q2) bi with
        | nil => rw [h] at hlen; exact absurd (kt hlen.symm) bU
        | cons a l => rfl
      rw [GL, hlen] at this;exact this
  rintro cs R jN;obtain ⟨hv, fv, cv, b, S, lk, hS, c6, ga, rfl, rfl⟩ := id jN;have dF : ∀ (I J T : Int) (fv : Value), (eC E r rm s.ph I J T s.dirty hv fv cv b lk).all AC.aZ = true := fun I J T fv => by simp only [ku, mR, c6]; rfl
  unfold sf;simp only [show (bx E r rm).gO = fL from rfl];cases iB : jl (bx E r rm) (p1, p2) (q1, q2) (ct, cz) with
  | true =>
    rw [iB] at bH;have my : ln (bx E r rm) (p1, p2) (q1, q2) (ct, cz) s.fnd = s.fnd ++ [(ct, cz)] := by unfold ln; rw [iB]; rfl
    rw [my] at split ⊢;have X1 : (s.fnd ++ [(ct, cz)]).length ≤ 1100 := by rw [cJ, List.length_singleton]; omega
    have bU : s.fnd ++ [(ct, cz)] ≠ [] := by simp
    obtain ⟨qh, AV⟩ := split _ rfl bU X1;clear split w5 iB;refine dv (f := 56) Tryz.func56 rfl (dq rfl) (by exact eu rfl) ?_;(repeat first | (with_reducible apply dQ (id := 1) [10,0,1,2,3,4,5,6,7,8,9,11]); kernel_rfl; kernel_rfl; rfl | (with_reducible apply dQ (id := 2) [6,0,1,2,3,4,5,7]); kernel_rfl; kernel_rfl; rfl | (with_reducible apply dQ (id := 3) [10,0,1,2,3,4,5,6,7,8,9,11]); kernel_rfl; kernel_rfl; rfl | (with_reducible apply dQ (id := 4) [0,1,2,3,4,5,6]); kernel_rfl; kernel_rfl; rfl | (with_reducible apply lG (id := 5) [0,1,2,3,4,5,6,7,8,9,10] [3000048]); kernel_rfl; kernel_rfl; rfl | refine c5 ?_ | refine iw ?_ | (with_reducible apply jW 1); (iterate 4 rfl); (omega); (assumption); rfl; kernel_rfl; rfl | (with_reducible apply jW 3); (iterate 4 rfl); (omega); (assumption); rfl; kernel_rfl; rfl | (with_reducible apply n0 1); (iterate 3 rfl); (assumption); assumption; rfl; kernel_rfl; rfl | (with_reducible apply n0 3); (iterate 3 rfl); (assumption); assumption; rfl; kernel_rfl; rfl);refine nr 2 rfl rfl rfl rfl ?q1 ?q2 rfl rfl (fun v1 hI => ?_)
    case q1 => exact iY (by show s.fnd.length + 1 ≤ 1000000; omega)
    case q2 => show (s.fnd.length + 1) * 16 ≤ 140737488355328; omega
    (repeat first | (with_reducible apply dQ (id := 7) [0,1,2,3,4,5,6,7,8,9]); kernel_rfl; kernel_rfl; rfl | refine c5 ?_ | (with_reducible apply nZ 1); (iterate 4 rfl); kernel_rfl; rfl);refine D7 (dP b S hv v1 cv s.hot (s.fnd ++ [(ct, cz)]) s.ch) (bB.of_eq ae2.symm) ?_
    by_cases tn : s.T + 1 < s.hot.length
    · rw [if_pos tn]
      have yR : (s.T : Int) + 1 < (s.hot.length : Int) := by omega
      have fG : dE E r rm { s with fnd := s.fnd ++ [(ct, cz)], T := s.T + 1 } (eC E r rm s.ph s.I s.J ((s.T : Int) + 1) s.dirty hv v1 cv b lk) (dP b S hv v1 cv s.hot (s.fnd ++ [(ct, cz)]) s.ch) := ⟨hv, v1, cv, b, S, lk, hS, c6, ga, rfl, rfl⟩;(refine a7 ?_)
      ((refine eP rfl aN rfl (bB.refl _) fG.closed rfl fc ?_))
      exact ⟨_, rfl, rfl, fG⟩
    · rw [if_neg tn, if_neg bU]
      have yR : ¬ (s.T : Int) + 1 < (s.hot.length : Int) := by omega
      have GL : ¬ ((s.fnd ++ [(ct, cz)]).length : Int) = 0 := fun h => bU (kt (by omega));refine D6 2 1000 9 (iH v1 (s.fnd ++ [(ct, cz)])) rfl rfl rfl ?_;refine lH 2 36 2 rfl ?_
      refine D7 (dP b S hv (.slice none 0 0) cv s.hot [] s.ch) (fun k q af => by
        match k with
        | 0 => exact af
        | 1 => exact af
        | 2 => exact af
        | 3 => exact af
        | k + 4 => cases af) ?_
      have fG : dE E r rm { s with T := 0, fnd := [], ch := s.ch.set s.I (bu.dl V s.J (fL (p1, p2) (q1, q2) (s.fnd ++ [(ct, cz)])), ey D s.J (s.fnd ++ [(ct, cz)]).length) } (eC E r rm s.ph s.I s.J 0 s.dirty hv (.slice none 0 0) cv b lk) (dP b S hv (.slice none 0 0) cv s.hot [] (s.ch.set s.I (bu.dl V s.J (fL (p1, p2) (q1, q2) (s.fnd ++ [(ct, cz)])), ey D s.J (s.fnd ++ [(ct, cz)]).length))) := ⟨hv, _, cv, b, S, lk, hS, c6, (fun h => absurd (ho.symm.trans (show s.ph = 3 from h)) (by decide)), rfl, rfl⟩
      have np : bK (dP b S hv (.slice none 0 0) cv s.hot [] s.ch) 3 ⟨34, 2, cv, s.ch.length, eD (ev s.ch) ((s.I : Int).toNat * 2) [.p (cc 2 (bu.dl V s.J (fL (p1, p2) (q1, q2) (s.fnd ++ [(ct, cz)]))).length (bP (bu.dl V s.J (fL (p1, p2) (q1, q2) (s.fnd ++ [(ct, cz)]))))), .p (cc 1 (ey D s.J (s.fnd ++ [(ct, cz)]).length).length (cA (ey D s.J (s.fnd ++ [(ct, cz)]).length)))]⟩ = dP b S hv (.slice none 0 0) cv s.hot [] (s.ch.set s.I (bu.dl V s.J (fL (p1, p2) (q1, q2) (s.fnd ++ [(ct, cz)])), ey D s.J (s.fnd ++ [(ct, cz)]).length)) := by
        rw [K6 rfl bj, show s.ch.length = (s.ch.set s.I (bu.dl V s.J (fL (p1, p2) (q1, q2) (s.fnd ++ [(ct, cz)])), ey D s.J (s.fnd ++ [(ct, cz)]).length)).length from (List.length_set ..).symm];exact QZ
      generalize G6 : bu.dl V s.J (fL (p1, p2) (q1, q2) (s.fnd ++ [(ct, cz)])) = JM at *;generalize G7 : ey D s.J (s.fnd ++ [(ct, cz)]).length = v7 at *;generalize Ns : fL (p1, p2) (q1, q2) (s.fnd ++ [(ct, cz)]) = L' at *;(repeat first | (with_reducible apply lG (id := 12) [0,1,2,3,4,5,6,7,8,9,10,11,12,13,14,15,16,17,18,19,20,21,22,23,24,25,26,27,28,29,30,31,32] [4000000]); kernel_rfl; kernel_rfl; rfl | refine c5 ?_ | refine iw ?_ | (with_reducible apply jW 3); (iterate 4 rfl); (omega); (assumption); rfl; kernel_rfl; rfl);refine zl 3 rfl rfl rfl rfl i2 rfl rfl lN.1 rfl ?_;(refine a7 ?_)
      ((refine eP rfl aN rfl (bB.of_eq np.symm) fG.closed rfl fc ?_))
      exact ⟨_, rfl, rfl, fG⟩
  | false =>
    rw [iB] at bH;have my : ln (bx E r rm) (p1, p2) (q1, q2) (ct, cz) s.fnd = s.fnd := by unfold ln; rw [iB]; rfl
    rw [my] at split ⊢;have aic := cK
    by_cases bU : s.fnd = []
    · clear split w5 iB
      have cX : ({ s with fnd := s.fnd } : bu.aV ao) = s := rfl;have aD : (s.fnd.length : Int) = 0 := by rw [bU]; rfl
      have ej := N0 (E := E) (r := r) (rm := rm) (s := { s with T := 0, fnd := [], J := s.J + 1 }) hd rfl aj bj (by show s.J + 1 ≤ 1100; omega) ho;have lp : dE E r rm { s with T := 0, fnd := [], J := s.J + 1 } (eC E r rm s.ph s.I ((s.J : Int) + 1) 0 s.dirty hv fv cv b lk) (dP b S hv fv cv s.hot s.fnd s.ch) := ⟨hv, fv, cv, b, S, lk, hS, c6, ga, rfl, by rw [bU]⟩
      by_cases tn : s.T + 1 < s.hot.length
      · rw [if_pos tn]
        have yR : (s.T : Int) + 1 < (s.hot.length : Int) := by omega
        have fG : dE E r rm { s with fnd := s.fnd, T := s.T + 1 } (eC E r rm s.ph s.I s.J ((s.T : Int) + 1) s.dirty hv fv cv b lk) (dP b S hv fv cv s.hot s.fnd s.ch) := ⟨hv, fv, cv, b, S, lk, hS, c6, ga, rfl, rfl⟩;refine dv (f := 56) Tryz.func56 rfl (dq rfl) (by exact eu rfl) ?_;(repeat first | (with_reducible apply dQ (id := 1) [10,0,1,2,3,4,5,6,7,8,9,11]); kernel_rfl; kernel_rfl; rfl | (with_reducible apply dQ (id := 2) [6,0,1,2,3,4,5,7]); kernel_rfl; kernel_rfl; rfl | (with_reducible apply dQ (id := 3) [10,0,1,2,3,4,5,6,7,8,9,11]); kernel_rfl; kernel_rfl; rfl | (with_reducible apply dQ (id := 4) [0,1,2,3,4,5,6]); kernel_rfl; kernel_rfl; rfl | (with_reducible apply dQ (id := 7) [0,1,2,3,4,5,6,7,8,9]); kernel_rfl; kernel_rfl; rfl | refine c5 ?_ | refine iw ?_ | (with_reducible apply nZ 1); (iterate 4 rfl); kernel_rfl; rfl | (with_reducible apply jW 1); (iterate 4 rfl); (omega); (assumption); rfl; kernel_rfl; rfl | (with_reducible apply jW 3); (iterate 4 rfl); (omega); (assumption); rfl; kernel_rfl; rfl | (with_reducible apply n0 1); (iterate 3 rfl); (assumption); assumption; rfl; kernel_rfl; rfl | (with_reducible apply n0 3); (iterate 3 rfl); (assumption); assumption; rfl; kernel_rfl; rfl)
        ((refine eP rfl aN rfl (bB.refl _) fG.closed rfl fc ?_))
        exact ⟨_, rfl, rfl, fG⟩
      · rw [if_neg tn, if_pos bU]
        have yR : ¬ (s.T : Int) + 1 < (s.hot.length : Int) := by omega
        refine dv (f := 56) Tryz.func56 rfl (dq rfl) (by exact eu rfl) ?_;(repeat first | (with_reducible apply dQ (id := 1) [10,0,1,2,3,4,5,6,7,8,9,11]); kernel_rfl; kernel_rfl; rfl | (with_reducible apply dQ (id := 2) [6,0,1,2,3,4,5,7]); kernel_rfl; kernel_rfl; rfl | (with_reducible apply dQ (id := 3) [10,0,1,2,3,4,5,6,7,8,9,11]); kernel_rfl; kernel_rfl; rfl | (with_reducible apply dQ (id := 4) [0,1,2,3,4,5,6]); kernel_rfl; kernel_rfl; rfl | (with_reducible apply dQ (id := 7) [0,1,2,3,4,5,6,7,8,9]); kernel_rfl; kernel_rfl; rfl | refine c5 ?_ | refine iw ?_ | (with_reducible apply nZ 1); (iterate 4 rfl); kernel_rfl; rfl | (with_reducible apply nZ 2); (iterate 4 rfl); kernel_rfl; rfl | (with_reducible apply jW 1); (iterate 4 rfl); (omega); (assumption); rfl; kernel_rfl; rfl | (with_reducible apply jW 3); (iterate 4 rfl); (omega); (assumption); rfl; kernel_rfl; rfl | (with_reducible apply n0 1); (iterate 3 rfl); (assumption); assumption; rfl; kernel_rfl; rfl | (with_reducible apply n0 3); (iterate 3 rfl); (assumption); assumption; rfl; kernel_rfl; rfl);refine il rfl rfl rfl rfl rfl rfl rfl rfl ej lp (fun au ay F5 => ?_);(refine a7 ?_);obtain ⟨CE, B2, BM, dM, yg, C0, Cb, Cs, Cr, rfl, rfl⟩ := id F5
        ((refine eP rfl aN rfl (bB.refl _) F5.closed rfl fc ?_))
        exact ⟨_, rfl, rfl, F5⟩
    obtain ⟨qh, AV⟩ := split _ rfl bU (by omega);clear split w5 iB;refine dv (f := 56) Tryz.func56 rfl (dq rfl) (by exact eu rfl) ?_;(repeat first | (with_reducible apply dQ (id := 1) [10,0,1,2,3,4,5,6,7,8,9,11]); kernel_rfl; kernel_rfl; rfl | (with_reducible apply dQ (id := 2) [6,0,1,2,3,4,5,7]); kernel_rfl; kernel_rfl; rfl | (with_reducible apply dQ (id := 3) [10,0,1,2,3,4,5,6,7,8,9,11]); kernel_rfl; kernel_rfl; rfl | (with_reducible apply dQ (id := 4) [0,1,2,3,4,5,6]); kernel_rfl; kernel_rfl; rfl | (with_reducible apply dQ (id := 7) [0,1,2,3,4,5,6,7,8,9]); kernel_rfl; kernel_rfl; rfl | refine c5 ?_ | refine iw ?_ | (with_reducible apply nZ 1); (iterate 4 rfl); kernel_rfl; rfl | (with_reducible apply jW 1); (iterate 4 rfl); (omega); (assumption); rfl; kernel_rfl; rfl | (with_reducible apply jW 3); (iterate 4 rfl); (omega); (assumption); rfl; kernel_rfl; rfl | (with_reducible apply n0 1); (iterate 3 rfl); (assumption); assumption; rfl; kernel_rfl; rfl | (with_reducible apply n0 3); (iterate 3 rfl); (assumption); assumption; rfl; kernel_rfl; rfl)
    by_cases tn : s.T + 1 < s.hot.length
    · rw [if_pos tn]
      have yR : (s.T : Int) + 1 < (s.hot.length : Int) := by omega
      have fG : dE E r rm { s with fnd := s.fnd, T := s.T + 1 } (eC E r rm s.ph s.I s.J ((s.T : Int) + 1) s.dirty hv fv cv b lk) (dP b S hv fv cv s.hot (s.fnd) s.ch) := ⟨hv, fv, cv, b, S, lk, hS, c6, ga, rfl, rfl⟩;(refine a7 ?_)
      ((refine eP rfl aN rfl (bB.refl _) fG.closed rfl fc ?_))
      exact ⟨_, rfl, rfl, fG⟩
    · rw [if_neg tn, if_neg bU]
      have yR : ¬ (s.T : Int) + 1 < (s.hot.length : Int) := by omega
      have GL : ¬ ((s.fnd).length : Int) = 0 := fun h => bU (kt (by omega));refine D6 2 1000 9 (iH fv (s.fnd)) rfl rfl rfl ?_;refine lH 2 36 2 rfl ?_
      refine D7 (dP b S hv (.slice none 0 0) cv s.hot [] s.ch) (fun k q af => by
        match k with
        | 0 => exact af
        | 1 => exact af
        | 2 => exact af
        | 3 => exact af
        | k + 4 => cases af) ?_
      have fG : dE E r rm { s with T := 0, fnd := [], ch := s.ch.set s.I (bu.dl V s.J (fL (p1, p2) (q1, q2) (s.fnd)), ey D s.J (s.fnd).length) } (eC E r rm s.ph s.I s.J 0 s.dirty hv (.slice none 0 0) cv b lk) (dP b S hv (.slice none 0 0) cv s.hot [] (s.ch.set s.I (bu.dl V s.J (fL (p1, p2) (q1, q2) (s.fnd)), ey D s.J (s.fnd).length))) := ⟨hv, _, cv, b, S, lk, hS, c6, (fun h => absurd (ho.symm.trans (show s.ph = 3 from h)) (by decide)), rfl, rfl⟩
      have np : bK (dP b S hv (.slice none 0 0) cv s.hot [] s.ch) 3 ⟨34, 2, cv, s.ch.length, eD (ev s.ch) ((s.I : Int).toNat * 2) [.p (cc 2 (bu.dl V s.J (fL (p1, p2) (q1, q2) (s.fnd))).length (bP (bu.dl V s.J (fL (p1, p2) (q1, q2) (s.fnd))))), .p (cc 1 (ey D s.J (s.fnd).length).length (cA (ey D s.J (s.fnd).length)))]⟩ = dP b S hv (.slice none 0 0) cv s.hot [] (s.ch.set s.I (bu.dl V s.J (fL (p1, p2) (q1, q2) (s.fnd)), ey D s.J (s.fnd).length)) := by
        rw [K6 rfl bj, show s.ch.length = (s.ch.set s.I (bu.dl V s.J (fL (p1, p2) (q1, q2) s.fnd), ey D s.J s.fnd.length)).length from (List.length_set ..).symm];exact QZ
      generalize G6 : bu.dl V s.J (fL (p1, p2) (q1, q2) (s.fnd)) = JM at *;generalize G7 : ey D s.J (s.fnd).length = v7 at *;generalize Ns : fL (p1, p2) (q1, q2) (s.fnd) = L' at *;(repeat first | (with_reducible apply lG (id := 12) [0,1,2,3,4,5,6,7,8,9,10,11,12,13,14,15,16,17,18,19,20,21,22,23,24,25,26,27,28,29,30,31,32] [4000000]); kernel_rfl; kernel_rfl; rfl | refine c5 ?_ | refine iw ?_ | (with_reducible apply jW 3); (iterate 4 rfl); (omega); (assumption); rfl; kernel_rfl; rfl);refine zl 3 rfl rfl rfl rfl i2 rfl rfl lN.1 rfl ?_;(refine a7 ?_)
      ((refine eP rfl aN rfl (bB.of_eq np.symm) fG.closed rfl fc ?_))
      exact ⟨_, rfl, rfl, fG⟩
end
section
variable {P : Program} {R : aI} {s : aA} {ops : Array Oper} {dr : Option (List Nat)} {ty : Nat} {pos : String} {after : Array Edge} {guard : Option (Nat × Bool)} {K : aI → aA → Prop} {rest : List Oper}
theorem CB {bs : List Value} {dst : Option Nat} {f : FuncId} {g : Operand} {aL : Array TypeId} {l : List Operand} {args : List ah} {m0 : Mem} {R0 : aI} {Post : ah → Mem → aI → Prop} [E : Enters P f] (hw : want ops ⟨dst, .call ⟨.value g, l.toArray, aL⟩, ty, pos, after, guard⟩ s = some true) (hm : dW dr ⟨dst, .call ⟨.value g, l.toArray, aL⟩, ty, pos, after, guard⟩ = true)
  (aq : s.look g = some (aR (.func (.func f) bs.toArray #[]))) (ab : bs.all Bz = true) (aJ : bs.map (fun b => some (xw b)) ++ l.map s.look = args.map some) (hp : dk P f args m0 R0 Post) (az : ∀ x ∈ args, ∀ j, x.owns j → ∃ cs, m0 j = some cs) (nn : ∀ k cs, m0 k = some cs → s.mem k = some cs ∧ (pc dr k = true ∨ ∀ r aG ay, Post r aG ay → aG k = some cs)) (ap : bB R0 R) (fJ : ∀ k cs x j, m0 k = some cs → x ∈ cs → x.owns j → ∃ au, m0 j = some au) (hd : kT dst s.n = true)
  (h : ∀ r aG ay, Post r aG ay → (∀ k au, aG k = some au → (∃ cs, m0 k = some cs) ∨ (s.mem k = none ∧ k < s.n)) ∧ cQ P ops dr K rest (bV ay R) ((s.over aG).put dst r)) : cQ P ops dr K (⟨dst, .call ⟨.value g, l.toArray, aL⟩, ty, pos, after, guard⟩ :: rest) R s := by
 refine ⟨true, hw, Lt hd, .inr (.inr (.inr (.inr (.inl ⟨rfl, hm, f, args, m0, R0, Post, ⟨⟨_, g, rfl, rfl, .inl ⟨bs, aq, ?_, ab⟩⟩, E.h⟩, hp, az, nn, ap, fJ, fun r aG ay h1 _ _ _ => h r aG ay h1⟩))))⟩;simpa using aJ
theorem U7 (g e off : Nat) (cs : List AC) : nA g off = jy (iS g e cs).v off := by
 show nA g off = .pointer (some ((⟨g, 0, none⟩ : Addr).add off));rw [Bo, jd]
theorem tD {x : Operand} {d lt off g e : Nat} {cs : List AC} {c1 : AC} (i : Nat) [T : eY P lt false 1] (hi : R i = some (iS g e cs)) (hw : want ops ⟨some d, .load lt x, ty, pos, after, guard⟩ s = some true) (aa : s.look x = some (aR (nA g off))) (aP : cs[off]? = some c1) (aj : (ah.w (.one c1)).aZ = true) (ap : ug ops dr (some d) = true) (hd : Nat.blt d s.n = true) (h : cQ P ops dr K rest R (s.put (some d) (.w (.one c1)))) : cQ P ops dr K (⟨some d, .load lt x, ty, pos, after, guard⟩ :: rest) R s :=
 zh i hi hw (by rw [aa, U7 g e off cs]) Nat.one_pos aP aj ap hd h
end
theorem y0 {P : Program} {fn : Func} {l : List ResultVar} {xs : List bz} {R R0 ba : aI} {s : aA} {Post : ah → Mem → aI → Prop} (ap : fn.results = l.toArray) (h : l.map (iK P s) = xs.map some) (aw : bB ba R) (aa : (packed xs).aZ = true) (aD : ∀ i r, R0 i = some r → ∃ aX, ba i = some aX) (hp : Post (packed xs) ca ba) : tv P fn ca R0 Post R s :=
 ⟨xs, packed xs, ca, ba, by rw [ap]; exact h, .refl _, hp, fun k c h => (by cases h), aw, fun j ae => absurd ae (ah.du aa j), fun k c x j h => (by cases h), fun k c h => (by cases h), aD⟩
theorem dE.ou {E : List (Int × bS)} {r rm : Nat} {s : bu.aV ao} {cs : List AC} {R : aI} (h : dE E r rm s cs R) : R 9 = none ∧ cs.all AC.aZ = true ∧ 0 < cs.length := by
 refine ⟨?_, h.closed, ?_⟩
 ·obtain ⟨_, _, _, _, _, _, _, _, _, _, rfl⟩ := h; rfl
 ·obtain ⟨_, _, _, _, _, _, _, _, _, rfl, _⟩ := h; exact jw _
section
variable {E : List (Int × bS)} {r rm : Nat}
theorem DY {f : FuncId} {s s1 : bu.aV ao} {v : ah} {cs : List AC} {R : aI} (G5 : v.aZ = true) (hp : gg E r rm f [] s v s1) (bj : dE E r rm s cs R) (g e : Nat) : dk ag f [aR (ea g)] ca (bK R 9 (iS g e cs)) fun b0 aG ay => ∃ au ba bq, (b0 = v ∧ dE E r rm s1 au ba) ∧ aG = ca ∧ ay = bK ba 9 (iS g bq au) := by
 have h := (hp cs R bj).agL 9 g e rfl bj.ou.2.1 bj.ou.2.2 bj.ou.1 (fun b0 aG ay al => by
  obtain ⟨au, rfl, rfl, al⟩ := al;exact ⟨G5, al.ou.1, au, rfl, al.ou.2.1, al.ou.2.2⟩)
 refine ⟨fun U ad W vs cj cp cL => (h.call U ad W vs cj cp cL).mono ?_⟩;rintro cX bh ⟨v1, b6, aG, ay, aY, cF, di, ⟨au, ba, bq, ⟨tc, he, al⟩, rfl, rfl⟩, me⟩
 have : tc = au := by
  have h1 : cN 1000 au 1000 = some au := by unfold cN; exact cx _ _ _
  rw [he] at h1;exact (hK h1).2.symm
 subst this;exact ⟨v1, b6, ca, _, aY, cF, di, ⟨tc, ba, bq, al, rfl, rfl⟩, me⟩
theorem DX {f : FuncId} {args : List ah} {s s1 : bu.aV ao} {v : ah} (G5 : v.aZ = true) (ek : args.all ah.aZ = true) (h : ∀ cs R, dE E r rm s cs R → ∀ g e, dk ag f (aR (ea g) :: args) ca (bK R 9 (iS g e cs)) fun b0 aG ay => ∃ au ba bq, (b0 = v ∧ dE E r rm s1 au ba) ∧ aG = ca ∧ ay = bK ba 9 (iS g bq au)) : gg E r rm f args s v s1 := by
 intro cs R bj;refine dk.agK 9 (fun g e => ?_) ek bj.ou.2.1 bj.ou.2.2 bj.ou.1 (fun b0 au ay al => ?_)
 ·refine ⟨fun U ad W vs cj cp cL => ((h cs R bj g e).call U ad W vs cj cp cL).mono ?_⟩;rintro cX bh ⟨v1, b6, aG, ay, aY, cF, di, ⟨au, ba, bq, al, rfl, rfl⟩, me⟩;exact ⟨v1, b6, ca, _, aY, cF, di, ⟨au, ba, bq, ⟨au, rfl, al⟩, rfl, rfl⟩, me⟩
 ·obtain ⟨tc, he, rfl, al⟩ := al
  have : tc = au := by
   have h1 : cN 1000 au 1000 = some au := by unfold cN; exact cx _ _ _
   rw [he] at h1;exact (hK h1).2.symm
  subst this;exact ⟨G5, al.ou.1, al.ou.2.1, al.ou.2.2⟩
theorem DV {s s1 : bu.aV ao} {cs au : List AC} {R ay : aI} {g e bq : Nat} (h : dE E r rm s cs R) (aO : dE E r rm s1 au ay) : ∀ i q, bK R 9 (iS g e cs) i = some q → ∃ bX, bK ay 9 (iS g bq au) i = some bX := by
 obtain ⟨_, _, _, _, _, _, _, _, _, _, rfl⟩ := h;obtain ⟨_, _, _, _, _, _, _, _, _, _, rfl⟩ := aO;intro i q al
 by_cases qw : i = 9
 ·subst qw; exact ⟨_, cx _ _ _⟩
 ·rw [cl _ _ qw] at al;obtain ⟨bX, nX⟩ := fc i q al;exact ⟨bX, by rw [cl _ _ qw]; exact nX⟩
theorem DW {s s1 : bu.aV ao} {cs au : List AC} {R ay : aI} {g e bq : Nat} (h : dE E r rm s cs R) (aO : dE E r rm s1 au ay) : bV (bK ay 9 (iS g bq au)) (bK R 9 (iS g e cs)) = bK ay 9 (iS g bq au) := by
 have az := h.bV aO;funext i
 by_cases qw : i = 9
 ·subst qw; exact (hL (cx _ _ _)).trans (cx _ _ _).symm
 ·have : bV ay R i = ay i := congrFun az i;unfold bV at this ⊢;rw [cl _ _ qw, cl _ _ qw]; exact this
theorem Z4 {s s1 : bu.aV ao} (ho : s.ph = 0) (hp : gg E r rm 54 [] s lJ s1) : gg E r rm 30 [] s (bk true) s1 := by
 refine DX rfl rfl fun cs R bj g e => ?_;have aT := DY rfl hp bj g e;obtain ⟨ph, I, J, T, dirty, hot, fnd, ch⟩ := s;obtain rfl : ph = 0 := ho;obtain ⟨hv, fv, cv, b, S, lk, hS, c6, ga, rfl, rfl⟩ := id bj;refine dv (f := 30) Tryz.func30 rfl (dq rfl) (by exact nP) ?_;(refine a7 ?_);refine tD 9 rfl rfl rfl rfl rfl rfl rfl ?_;(refine a7 ?_);refine tD 9 rfl rfl rfl rfl rfl rfl rfl ?_;(refine a7 ?_);refine CB (bs := [ea g]) (args := [aR (ea g)]) (l := []) rfl rfl rfl rfl rfl aT (fun x aa j ae => by simp at aa; subst aa; exact absurd ae (iE _ j)) (fun k c h => by cases h) (bB.refl _) (fun k c x j h => by cases h) rfl (fun b0 aG ay al => ?_);obtain ⟨au, ba, bq, ⟨rfl, ck⟩, rfl, rfl⟩ := al;refine ⟨fun k c h => (by cases h), ?_⟩;rw [DW bj ck, tW];(refine a7 ?_)
 ((refine y0 rfl (bf rfl aN) (bB.refl _) rfl (DV bj ck) ?_))
 exact ⟨au, ba, bq, ⟨rfl, ck⟩, rfl, rfl⟩
theorem Z5 {s s1 : bu.aV ao} (ho : s.ph = 1) (hp : gg E r rm 55 [] s lJ s1) : gg E r rm 30 [] s (bk true) s1 := by
 refine DX rfl rfl fun cs R bj g e => ?_;have aT := DY rfl hp bj g e;obtain ⟨ph, I, J, T, dirty, hot, fnd, ch⟩ := s;obtain rfl : ph = 1 := ho;obtain ⟨hv, fv, cv, b, S, lk, hS, c6, ga, rfl, rfl⟩ := id bj;refine dv (f := 30) Tryz.func30 rfl (dq rfl) (by exact nP) ?_;(refine a7 ?_);refine tD 9 rfl rfl rfl rfl rfl rfl rfl ?_;(refine a7 ?_);refine tD 9 rfl rfl rfl rfl rfl rfl rfl ?_;(refine a7 ?_);refine CB (bs := [ea g]) (args := [aR (ea g)]) (l := []) rfl rfl rfl rfl rfl aT (fun x aa j ae => by simp at aa; subst aa; exact absurd ae (iE _ j)) (fun k c h => by cases h) (bB.refl _) (fun k c x j h => by cases h) rfl (fun b0 aG ay al => ?_);obtain ⟨au, ba, bq, ⟨rfl, ck⟩, rfl, rfl⟩ := al;refine ⟨fun k c h => (by cases h), ?_⟩;rw [DW bj ck, tW];(refine a7 ?_)
 ((refine y0 rfl (bf rfl aN) (bB.refl _) rfl (DV bj ck) ?_))
 exact ⟨au, ba, bq, ⟨rfl, ck⟩, rfl, rfl⟩
theorem Z6 {s s1 : bu.aV ao} (ho : s.ph = 2) (hp : gg E r rm 56 [] s lJ s1) : gg E r rm 30 [] s (bk true) s1 := by
 refine DX rfl rfl fun cs R bj g e => ?_;have aT := DY rfl hp bj g e;obtain ⟨ph, I, J, T, dirty, hot, fnd, ch⟩ := s;obtain rfl : ph = 2 := ho;obtain ⟨hv, fv, cv, b, S, lk, hS, c6, ga, rfl, rfl⟩ := id bj;refine dv (f := 30) Tryz.func30 rfl (dq rfl) (by exact nP) ?_;(refine a7 ?_);refine tD 9 rfl rfl rfl rfl rfl rfl rfl ?_;(refine a7 ?_);refine tD 9 rfl rfl rfl rfl rfl rfl rfl ?_;(refine a7 ?_);refine CB (bs := [ea g]) (args := [aR (ea g)]) (l := []) rfl rfl rfl rfl rfl aT (fun x aa j ae => by simp at aa; subst aa; exact absurd ae (iE _ j)) (fun k c h => by cases h) (bB.refl _) (fun k c x j h => by cases h) rfl (fun b0 aG ay al => ?_);obtain ⟨au, ba, bq, ⟨rfl, ck⟩, rfl, rfl⟩ := al;refine ⟨fun k c h => (by cases h), ?_⟩;rw [DW bj ck, tW];(refine a7 ?_)
 ((refine y0 rfl (bf rfl aN) (bB.refl _) rfl (DV bj ck) ?_))
 exact ⟨au, ba, bq, ⟨rfl, ck⟩, rfl, rfl⟩
theorem Z7 {s s1 : bu.aV ao} (ho : s.ph = 3) (hp : gg E r rm 57 [] s lJ s1) : gg E r rm 30 [] s (bk true) s1 := by
 refine DX rfl rfl fun cs R bj g e => ?_;have aT := DY rfl hp bj g e;obtain ⟨ph, I, J, T, dirty, hot, fnd, ch⟩ := s;obtain rfl : ph = 3 := ho;obtain ⟨hv, fv, cv, b, S, lk, hS, c6, ga, rfl, rfl⟩ := id bj;refine dv (f := 30) Tryz.func30 rfl (dq rfl) (by exact nP) ?_;(refine a7 ?_);refine tD 9 rfl rfl rfl rfl rfl rfl rfl ?_;(refine a7 ?_);refine tD 9 rfl rfl rfl rfl rfl rfl rfl ?_;(refine a7 ?_);refine CB (bs := [ea g]) (args := [aR (ea g)]) (l := []) rfl rfl rfl rfl rfl aT (fun x aa j ae => by simp at aa; subst aa; exact absurd ae (iE _ j)) (fun k c h => by cases h) (bB.refl _) (fun k c x j h => by cases h) rfl (fun b0 aG ay al => ?_);obtain ⟨au, ba, bq, ⟨rfl, ck⟩, rfl, rfl⟩ := al;refine ⟨fun k c h => (by cases h), ?_⟩;rw [DW bj ck, tW];(refine a7 ?_)
 ((refine y0 rfl (bf rfl aN) (bB.refl _) rfl (DV bj ck) ?_))
 exact ⟨au, ba, bq, ⟨rfl, ck⟩, rfl, rfl⟩
theorem NV {s : bu.aV ao} (ho : 4 ≤ s.ph) (ait : s.ph ≤ 5) : gg E r rm 30 [] s (bk false) s := by
 intro cs R bj;obtain ⟨hv, fv, cv, b, S, lk, hS, c6, ga, rfl, rfl⟩ := id bj;have aE : (s.ph : Int) ≥ 4 := by omega
 refine dv (f := 30) Tryz.func30 rfl (dq rfl) (by exact eu rfl) ?_;(refine a7 ?_)
 ((refine eP rfl (bf rfl aN) rfl (bB.refl _) bj.closed rfl fc ?_))
 exact ⟨_, rfl, rfl, bj⟩
end
section
variable {E : List (Int × bS)} {r rm : Nat}
abbrev mu (E : List (Int × bS)) (r rm : Nat) (s : bu.aV ao) : Prop := h8 (bx E r rm) (tQ (E.map Prod.snd) r) s
structure h9 (E : List (Int × bS)) (r rm : Nat) : Prop where
 r : r ≤ 28
 near : gI (E.map Prod.snd) = true
 len : E.length ≤ 300
 pos : 1 ≤ rm
 room : rm ≤ 1024
theorem h9.ok (h : h9 E r rm) : j9 (bx E r rm) (tQ (E.map Prod.snd) r) := afa h.r h.near
theorem h9.n (E : List (Int × bS)) (r rm : Nat) : (bx E r rm).n = E.length := mP ..
theorem h9.wF (h : h9 E r rm) {s : bu.aV ao} (ab : jG (bx E r rm) s) (ak : lh (bx E r rm) (tQ (E.map Prod.snd) r) s) : jD s.ch := by
 have hlen := ak.len;rw [h9.n] at hlen;refine ⟨by have := h.len; omega, fun c aj => ?_⟩;obtain ⟨i, hi⟩ := j1 aj;have h1 := (Lp h.ok ab ak aj).1;have h2 : (bx E r rm).R = rm := rfl;have := h.room;exact ⟨(ak.ib i c hi).len, by omega⟩
theorem h9.hot (h : h9 E r rm) {s : bu.aV ao} (ab : jG (bx E r rm) s) : s.hot.length ≤ 1024 := by
 have h1 := ab.room;have h2 : (bx E r rm).R = rm := rfl;have := h.room;omega
theorem Hm {s : bu.aV ao} (h : h9 E r rm) (bj : mu E r rm s) : gg E r rm 30 [] s (bk (decide (s.ph < 4))) (eQ (bx E r rm) s) := by
 obtain ⟨ab, aD | h1 | h2 | an | aE | cY⟩ := bj
 ·have e : eQ (bx E r rm) s = th (bx E r rm) s := by simp only [eQ, aD.ph]
  rw [e, aD.ph];have hi := aD.I;rw [h9.n] at hi;exact Z4 aD.ph (Z9 h.r h.near h.len hi aD.dirty aD.fnd (h.hot ab) aD.ph)
 ·have e : eQ (bx E r rm) s = tY (bx E r rm) s := by simp only [eQ, h1.ph]
  rw [e, h1.ph];have hi := h1.J;rw [h9.n] at hi;exact Z5 h1.ph (aab h.r h.near h.len h1.x9 hi h1.dirty h1.fnd (h.hot ab) h1.ph)
 ·obtain ⟨c, p, q, g1, g2, g3, ar⟩ := h2.link;have g4 := bN h2.T;generalize s.hot[s.T]'h2.T = x at g4
  have e : eQ (bx E r rm) s = sf (bx E r rm) s c p q (ln (bx E r rm) p q x s.fnd) := by
   simp only [eQ, h2.ph, xJ, g1, g2, g3, g4]
  rw [e, h2.ph];have aj := h2.laid.ib _ _ g1;have hd := Lp h.ok ab h2.laid (c7 g1);have aw : (bx E r rm).R = rm := rfl;have aix := h.room;obtain ⟨V, D⟩ := c;have hp := ab.fb _ (aj.hot p (c7 g2));have al := ab.fb _ (aj.hot q (c7 g3));have aU := h.hot ab
  have w5 : (ln (bx E r rm) p q x s.fnd) = (s.hot.take (s.T + 1)).filter (jl (bx E r rm) p q) := by
   rw [L4 g4, ar];unfold ln
   split <;> simp [*]
  refine Z6 h2.ph (aac h.r (h.wF ab h2.laid) g1 g2 g3 g4 (fun d kY => ?_) hp al h2.dirty aU ?_ ?_ h2.ph)
  ·have := hd.2 d kY; omega
  ·rw [ar];refine ha (List.length_filter_le ..) ?_;rw [dK]; omega
  ·rw [w5];exact (ab.nd.sublist (List.take_sublist ..)).filter _
 ·have e : eQ (bx E r rm) s = so (bx E r rm) s := by simp only [eQ, an.ph]
  rw [e, an.ph];have aj := h.wF ab an.laid;refine Z7 an.ph (aaa h.r aj ?_ an.x9 an.J (fun l ak => ?_) an.fnd (h.hot ab) an.ph)
  ·have := an.J;cases XG : s.ch with
   | nil => rw [XG] at this; simp [aW] at this
   | cons => exact jw _
  ·obtain ⟨_, a1, a2⟩ := tI h.ok an.laid ak;exact ⟨ab.fb _ a1, ab.fb _ a2⟩
 ·have e : eQ (bx E r rm) s = s := by simp only [eQ, aE.ph]
  rw [e, aE.ph];exact NV (by rw [aE.ph]; decide) (by rw [aE.ph]; decide)
 ·have e : eQ (bx E r rm) s = s := by simp only [eQ, cY.ph]
  rw [e, cY.ph];exact NV (by rw [cY.ph]; decide) (by rw [cY.ph]; decide)
end
section
variable {E : List (Int × bS)} {r rm : Nat}
theorem NT {s : bu.aV ao} : gg E r rm 26 [] s (aH s.ph) s := by
 intro cs R bj;obtain ⟨hv, fv, cv, b, S, lk, hS, c6, ga, rfl, rfl⟩ := id bj;refine dv (f := 26) Tryz.func26 rfl (dq rfl) (by exact eu rfl) ?_;(refine a7 ?_)
 ((refine eP rfl (bf rfl aN) rfl (bB.refl _) bj.closed rfl fc ?_))
 exact ⟨_, rfl, rfl, bj⟩
def Te (E : List (Int × bS)) (r rm : Nat) (n : Int) (s : bu.aV ao) (k : Nat) (R : aI) (aL : List (Nat × ah)) (bd : List (Nat × List AC)) : Prop :=
 ∃ (d : Nat) (s1 : bu.aV ao) (hv fv cv : Value) (b : Nat) (S : e0) (lk : AC), k = n.toNat - d ∧ d ≤ n.toNat ∧ mu E r rm s1 ∧ eN (bx E r rm) n.toNat s = ((eN (bx E r rm) k s1).1 + d, (eN (bx E r rm) k s1).2) ∧ dE E r rm s1 (eC E r rm s1.ph s1.I s1.J s1.T s1.dirty hv fv cv b lk) (dP b S hv fv cv s1.hot s1.fnd s1.ch) ∧ lk.aZ = true ∧ R = dP b S hv fv cv s1.hot s1.fnd s1.ch ∧ aL = [(0, rh), (1, aH n), (5, aH d)] ∧ bd = [(1000, eC E r rm s1.ph s1.I s1.J s1.T s1.dirty hv fv cv b lk)]
theorem CS {s : bu.aV ao} (h : h9 E r rm) (hs : mu E r rm s) {n : Int} (ax : n ≤ 1000000000000) : gg E r rm 29 [aH n] s (aH (eN (bx E r rm) n.toNat s).1) (eN (bx E r rm) n.toNat s).2 := by
 intro cs R bj;obtain ⟨hv, fv, cv, b, S, lk, hS, c6, ga, rfl, rfl⟩ := id bj;refine dv (f := 29) Tryz.func29 rfl (dq rfl) (by exact eu rfl) ?_;(refine a7 ?_);refine jz 16 (Te E r rm n s) n.toNat (dP b S hv fv cv s.hot s.fnd s.ch) _ [(1000, eC E r rm s.ph s.I s.J s.T s.dirty hv fv cv b lk)] ⟨0, s, hv, fv, cv, b, S, lk, rfl, dC _, hs, rfl, bj, c6, rfl, rfl, rfl⟩ (bB.refl _) rfl ⟨rfl, rfl, rfl, trivial⟩ ⟨rfl, trivial⟩ ?_ ?_
 ·cases lk <;> first | rfl | cases c6
 clear bj hS c6 ga;rintro k R aL bd ⟨d, s1, hv, fv, cv, b, S, lk, rfl, hd, tC, fS, bj, c6, rfl, rfl, rfl⟩ c0;clear c0
 by_cases bg : d < n.toNat
 ·have q1 : (d : Int) < n := by omega
  have di : (0 : Int) ≤ (d : Int) := by omega
  obtain ⟨bl, qG⟩ : ∃ bl, n.toNat - d = bl + 1 := ⟨n.toNat - d - 1, by omega⟩;have aT := Hm h tC;have hinv := (xR h.ok tC)
  by_cases aE : s1.ph < 4
  ·rw [cw aE] at aT;(repeat first | refine c5 ?_ | (with_reducible apply jo); rfl; (repeat first | refine jC ?_ | (with_reducible apply cW (c := true)); rfl; rfl; (exact cw (by omega))); (with_reducible apply iy));refine il rfl rfl rfl rfl rfl rfl rfl rfl aT bj (fun au ay ck => ?_);obtain ⟨bR, dh, db, bT, dm, gY, fQ, hk, iD, rfl, rfl⟩ := id ck;(refine a7 ?_);refine ⟨bl, _, _, [(1000, eC E r rm (eQ (bx E r rm) s1).ph (eQ (bx E r rm) s1).I (eQ (bx E r rm) s1).J (eQ (bx E r rm) s1).T (eQ (bx E r rm) s1).dirty bR dh db bT gY)], by omega, ⟨d + 1, eQ (bx E r rm) s1, bR, dh, db, bT, dm, gY, by omega, by omega, hinv.1, ?_, ck, hk, rfl, rfl, rfl⟩, bB.refl _, rfl, ⟨rfl, rfl, rfl, trivial⟩, ⟨rfl, trivial⟩, ?_⟩
   ·rw [fS, qG];have B5 : ¬ 4 ≤ s1.ph := by omega
    have e : eN (bx E r rm) (bl + 1) s1 = ((eN (bx E r rm) bl (eQ (bx E r rm) s1)).1 + 1, (eN (bx E r rm) bl (eQ (bx E r rm) s1)).2) := if_neg B5;rw [e];exact Prod.ext (by show _ + 1 + d = _ + (d + 1); omega) rfl
   ·cases gY <;> first | rfl | cases hk
  ·have B5 : 4 ≤ s1.ph := by omega
   rw [c3 aE, hinv.2.2 B5] at aT;rw [afu B5] at fS;have fS : eN (bx E r rm) n.toNat s = (d, s1) := by rw [fS]; exact Prod.ext (jd d) rfl
   (repeat first | refine c5 ?_ | (with_reducible apply jo); rfl; (repeat first | refine jC ?_ | (with_reducible apply cW (c := true)); rfl; rfl; (exact cw (by omega))); (with_reducible apply iy));refine il rfl rfl rfl rfl rfl rfl rfl rfl aT bj (fun au ay ck => ?_);obtain ⟨bR, dh, db, bT, dm, gY, fQ, hk, iD, rfl, rfl⟩ := id ck;(refine a7 ?_)
   ((refine eP rfl (bf rfl aN) rfl (bB.refl _) ck.closed rfl fc ?_))
   refine ⟨_, rfl, ?_, ?_⟩
   ·rw [fS]; rfl
   ·rw [fS]; exact ck
 ·have q1 : ¬ (d : Int) < n := by omega
  have ie : n.toNat - d = 0 := by omega
  rw [ie] at fS;have fS : eN (bx E r rm) n.toNat s = (d, s1) := by rw [fS]; exact Prod.ext (jd d) rfl
  (repeat first | refine c5 ?_ | (with_reducible apply jo); rfl; (repeat first | refine jC ?_ | (with_reducible apply cW (c := false)); rfl; rfl; (exact c3 (by omega))); (with_reducible apply iy))
  ((refine eP rfl (bf rfl aN) rfl (bB.refl _) bj.closed rfl fc ?_))
  refine ⟨_, rfl, ?_, ?_⟩
  ·rw [fS]; rfl
  ·rw [fS]; exact bj
def uU (ch : List (List ao × List Int)) : Int := ch.foldl (fun a c => max a (py c.2)) 0
theorem VL {ch : List (List ao × List Int)} {k : Nat} {c : List ao × List Int} (h : ch[k]? = some c) : uU (ch.take (k + 1)) = max (uU (ch.take k)) (py c.2) := by
 have af := (bM.1 h).1
 have e : ch.take (k + 1) = ch.take k ++ [c] := by
  rw [j3 af, (bM.1 h).2]
 unfold uU;rw [e, List.foldl_append]; rfl
def Su (E : List (Int × bS)) (r rm : Nat) (s : bu.aV ao) (hv fv cv : Value) (b : Nat) (S : e0) (lk : AC) (n : Nat) (R : aI) (aL : List (Nat × ah)) (bd : List (Nat × List AC)) : Prop :=
 ∃ (k : Nat) (ef d : Int), k ≤ s.ch.length ∧ n = s.ch.length - k ∧ ef = k ∧ d = uU (s.ch.take k) ∧ R = dP b S hv fv cv s.hot s.fnd s.ch ∧ aL = [(3, aH d), (10, aR cv), (11, aH s.ch.length), (12, aH ef)] ∧ bd = [(1000, eC E r rm s.ph s.I s.J s.T s.dirty hv fv cv b lk)]
theorem ZT {s : bu.aV ao} (aj : jD s.ch) : gg E r rm 14 [] s (aH (uU s.ch)) s := by
 intro cs R bj;obtain ⟨hv, fv, cv, b, S, lk, hS, c6, ga, rfl, rfl⟩ := id bj;refine dv (f := 14) Tryz.func14 rfl (dq rfl) (by exact eu rfl) ?_;(repeat first | refine c5 ?_ | (with_reducible apply nZ 3); (iterate 4 rfl); kernel_rfl; rfl);refine jz 22 (Su E r rm s hv fv cv b S lk) s.ch.length (dP b S hv fv cv s.hot s.fnd s.ch) _ [(1000, eC E r rm s.ph s.I s.J s.T s.dirty hv fv cv b lk)] ⟨0, 0, 0, dC _, rfl, rfl, rfl, rfl, rfl, rfl⟩ (bB.refl _) rfl ⟨rfl, rfl, rfl, rfl, trivial⟩ ⟨rfl, trivial⟩ ?_ ?_
 ·cases lk <;> first | rfl | cases c6
 rintro n R aL bd ⟨k, ef, d, af, rfl, jR, lV, rfl, rfl, rfl⟩ c0;clear c0;have hlen := aj.1
 by_cases al : k < s.ch.length
 ·obtain ⟨V, D, g1⟩ : ∃ V D, s.ch[k]? = some (V, D) := ⟨_, _, bN al⟩;obtain ⟨hj, gE⟩ := aj.2 _ (c7 g1);simp only at hj gE;obtain ⟨lN, rq⟩ := BF (ii := ef) jR g1;have q2 : ef < (s.ch.length : Int) := by omega
  have bO : 0 ≤ ef := by omega
  have dj : 0 < s.ch.length := by omega
  have aB := VL g1;rw [← lV, show max d (py (V, D).2) = if py D > d then py D else d by show max d (py D) = _; split <;> omega] at aB;have aT := ZS V D gE (by omega);(repeat first | refine c5 ?_ | refine iw ?_ | (with_reducible apply jW 3); (iterate 4 rfl); (omega); (assumption); rfl; kernel_rfl; rfl | (with_reducible apply n0 3); (iterate 3 rfl); (assumption); assumption; rfl; kernel_rfl; rfl);refine ⟨s.ch.length - (k + 1), dP b S hv fv cv s.hot s.fnd s.ch, _, [(1000, eC E r rm s.ph s.I s.J s.T s.dirty hv fv cv b lk)], by omega, ⟨k + 1, ef + 1, _, by omega, rfl, by omega, aB.symm, rfl, rfl, rfl⟩, bB.refl _, rfl, ⟨rfl, rfl, rfl, rfl, trivial⟩, ⟨rfl, trivial⟩, ?_⟩;cases lk <;> first | rfl | cases c6
 ·have q2 : ¬ ef < (s.ch.length : Int) := by omega
  have cX : s.ch.take k = s.ch := gn (by omega);rw [cX] at lV;(refine a7 ?_)
  ((refine eP rfl (bf rfl aN) rfl (bB.refl _) bj.closed rfl fc ?_))
  exact ⟨_, rfl, by rw [← lV]; rfl, bj⟩
end
theorem JT {n : Nat} {xs : List AC} (ax : n ≤ 900000) (aj : xs.all AC.aZ = true) (aa : xs.length = 2 * n) : pe ag 62 [cy 2 n xs] fun v q => ∃ v', v = aR v' ∧ q = ⟨36, 2, v', n, xs⟩ := by
 refine E2 rfl (fun v q h => by obtain ⟨v', rfl, _⟩ := h; rfl) ?_;refine dv (f := 62) Tryz.func62 rfl (dq rfl) (by exact nP) ?_;(refine a7 ?_);refine Rn 4 rfl ?_;intro b ab;cases b with
 | true =>
  have aD := ab rfl;subst aD;have h1 := kt aa;subst h1;clear ab;refine lH 0 36 2 rfl ?_;(refine a7 ?_)
  ((refine y1 rfl (bf rfl aN) rfl rfl (jw _) ?_))
  exact ⟨.slice none 0 0, rfl, rfl⟩
 | false =>
  clear ab;(refine a7 ?_);refine Nf 0 rfl rfl rfl rfl rfl (fun v0 oL => ?_);(refine a7 ?_);refine nr 0 rfl rfl rfl rfl ?q1 ?q2 aj rfl (fun v1 hI => ?_)
  case q1 => exact iY (by show 0 + n ≤ 1000000; omega)
  case q2 => show (0 + n) * 16 ≤ 140737488355328; omega
  (refine a7 ?_)
  ((refine y1 rfl (bf rfl aN) rfl rfl (jw _) ?_))
  exact ⟨v1, rfl, by rw [List.nil_append, jd]⟩
theorem TA {n : Nat} {xs : List AC} (ax : n ≤ 900000) (aj : xs.all AC.aZ = true) (aa : xs.length = 2 * n) : pe ag 63 [cy 2 n xs] fun v q => ∃ v', v = aR v' ∧ q = ⟨34, 2, v', n, xs⟩ := by
 refine E2 rfl (fun v q h => by obtain ⟨v', rfl, _⟩ := h; rfl) ?_;refine dv (f := 63) Tryz.func63 rfl (dq rfl) (by exact nP) ?_;(refine a7 ?_);refine Rn 4 rfl ?_;intro b ab;cases b with
 | true =>
  have aD := ab rfl;subst aD;have h1 := kt aa;subst h1;clear ab;refine lH 0 34 2 rfl ?_;(refine a7 ?_)
  ((refine y1 rfl (bf rfl aN) rfl rfl (jw _) ?_))
  exact ⟨.slice none 0 0, rfl, rfl⟩
 | false =>
  clear ab;(refine a7 ?_);refine Nf 0 rfl rfl rfl rfl rfl (fun v0 oL => ?_);(refine a7 ?_);refine nr 0 rfl rfl rfl rfl ?q1 ?q2 aj rfl (fun v1 hI => ?_)
  case q1 => exact iY (by show 0 + n ≤ 1000000; omega)
  case q2 => show (0 + n) * 48 ≤ 140737488355328; omega
  (refine a7 ?_)
  ((refine y1 rfl (bf rfl aN) rfl rfl (jw _) ?_))
  exact ⟨v1, rfl, by rw [List.nil_append, jd]⟩
abbrev pb (k rm ph I J T : Int) (dirty : Bool) (hv fv cv : Value) : List AC := [.c (.int .i64 k), .c (.int .i64 rm), .c (.int .i64 ph), .c (.int .i64 I), .c (.int .i64 J), .c (.int .i64 T), .c (.bool dirty), .c hv, .c fv, .c cv]
abbrev sG (hv fv cv : Value) (hot fnd : List ao) (ch : List (List ao × List Int)) : aI := bK (bK (br 1 (iH hv hot)) 2 (iH fv fnd)) 3 (wE cv ch)
abbrev lE (hv fv cv : Value) (hot fnd : List ao) (ch : List (List ao × List Int)) (R : aI) : aI := bK (bK (bK R 4 (iH hv hot)) 5 (iH fv fnd)) 6 (wE cv ch)
theorem ae5 {hv fv cv : Value} {hot fnd : List ao} {ch : List (List ao × List Int)} {R : aI} : bK (lE hv fv cv hot fnd ch R) 6 (wE cv ch) = lE hv fv cv hot fnd ch R := by
 funext k
 by_cases ie : k = 6
 ·subst ie; rfl
 ·rw [cl _ _ ie]
theorem Fs (ch : List (List ao × List Int)) : (ev ch).length = 2 * ch.length := by
 unfold ev; induction ch with
 | nil => rfl
 | cons c l b5 => rw [List.flatMap_cons, cJ, b5, iI]; show 2 + _ = _; omega
theorem Vn (ch : List (List ao × List Int)) : ∀ y ∈ ev ch, y.aZ = true := fun y ai => by
 obtain ⟨c, _, h⟩ := List.mem_flatMap.1 ai;simp only [ox, fD, sC, or_false] at h;rcases h with rfl | rfl <;> rfl
theorem NM (l : List ao) : ∀ y ∈ bP l, y.aZ = true := cB.1 (vq l)
theorem Vp {ch : List (List ao × List Int)} {i : Nat} {V : List ao} {D : List Int} (h : ch[i]? = some (V, D)) : eD (ev ch) (2 * i) [.p (cc 2 V.length (bP V)), .p (cc 1 D.length (cA D))] = ev ch := by
 have hi := (bM.1 h).1
 have e : ch = ch.take i ++ (V, D) :: ch.drop (i + 1) := by
  conv => lhs; rw [← j2 i ch, mN hi, (bM.1 h).2]
 have aM : ev ch = ev (ch.take i) ++ ([.p (cc 2 V.length (bP V)), .p (cc 1 D.length (cA D))] ++ ev (ch.drop (i + 1))) := by
  conv => lhs; rw [e]
  simp [ev, ox]
 have ak : (ev (ch.take i)).length = 2 * i := by rw [Fs, dK]; congr 1; omega
 rw [aM, IR ak];simp
def St (hv fv cv bR dh db : Value) (k rm ph I J T : Int) (dirty : Bool) (hot fnd : List ao) (ch : List (List ao × List Int)) (n : Nat) (R : aI) (aL : List (Nat × ah)) (bd : List (Nat × List AC)) : Prop :=
 ∃ (i : Nat) (ii : Int), i ≤ ch.length ∧ n = ch.length - i ∧ ii = i ∧ R = lE bR dh db hot fnd ch (sG hv fv cv hot fnd ch) ∧ aL = [(1, .w (.one (.own 1 0))), (2, .w (.one (.own 2 0))), (18, aR db), (19, aH ch.length), (20, aH ii)] ∧ bd = [(1, pb k rm ph I J T dirty bR dh db), (2, pb 0 0 0 0 0 0 false (.slice none 0 0) (.slice none 0 0) (.slice none 0 0))]
theorem Z8 {k rm ph I J T : Int} {dirty : Bool} {hv fv cv : Value} {hot fnd : List ao} {ch : List (List ao × List Int)} (aU : hot.length ≤ 900000) (ar : fnd.length ≤ 900000) (aj : jD ch) :
  dk ag 34 [.w (.agg (pb k rm ph I J T dirty hv fv cv))] ca (sG hv fv cv hot fnd ch) fun b0 aG ay => ∃ bR dh db, b0 = .w (.agg (pb k rm ph I J T dirty bR dh db)) ∧ aG = ca ∧ ay = lE bR dh db hot fnd ch (sG hv fv cv hot fnd ch) := by
 have hlen := aj.1;have hQ : ∀ aS : List AC, aS.length = (iH hv hot).aS.length → aS.all AC.aZ = true → pe ag 62 [cy 2 hot.length aS] fun v q => ∃ v', v = aR v' ∧ q = ⟨36, 2, v', hot.length, aS⟩ := fun aS ak ai => JT aU ai (by rw [ak, n4, Nat.mul_comm]);have nJ : ∀ aS : List AC, aS.length = (iH fv fnd).aS.length → aS.all AC.aZ = true → pe ag 62 [cy 2 fnd.length aS] fun v q => ∃ v', v = aR v' ∧ q = ⟨36, 2, v', fnd.length, aS⟩ := fun aS ak ai => JT ar ai (by rw [ak, n4, Nat.mul_comm]);have ur : ∀ aS : List AC, aS.length = (wE cv ch).aS.length → aS.all AC.aZ = true → pe ag 63 [cy 2 ch.length aS] fun v q => ∃ v', v = aR v' ∧ q = ⟨34, 2, v', ch.length, aS⟩ := fun aS ak ai => TA (by omega) ai (by rw [ak, Fs]);refine dv (f := 34) Tryz.func34 rfl (dq rfl) (by exact nP) ?_;(repeat first | (with_reducible apply lG (id := 1) [0,1,3,4,6,7,2,9,5,8,10,11,12,13,14] [7,10,13]); kernel_rfl; kernel_rfl; rfl | refine c5 ?_);refine GY 1 4 (by decide) rfl rfl rfl rfl hQ rfl (jw _) (NM _) rfl (fun bR => ?_);(refine a7 ?_);refine GY 2 5 (by decide) rfl rfl rfl rfl nJ rfl (jw _) (NM _) rfl (fun dh => ?_)
 skip
 refine GY 3 6 (by decide) rfl rfl rfl rfl ur rfl (jw _) (Vn _) rfl (fun db => ?_);(repeat first | refine c5 ?_ | (with_reducible apply nZ 6); (iterate 4 rfl); kernel_rfl; rfl);refine jz 33 (St hv fv cv bR dh db k rm ph I J T dirty hot fnd ch) ch.length (lE bR dh db hot fnd ch (sG hv fv cv hot fnd ch)) _ [(1, pb k rm ph I J T dirty bR dh db), (2, pb 0 0 0 0 0 0 false (.slice none 0 0) (.slice none 0 0) (.slice none 0 0))] ⟨0, 0, dC _, rfl, rfl, rfl, rfl, rfl⟩ (bB.refl _) rfl ⟨rfl, rfl, rfl, rfl, rfl, trivial⟩ ⟨rfl, rfl, trivial⟩ rfl ?_;rintro n R aL bd ⟨i, ii, hi, rfl, gv, rfl, rfl, rfl⟩ c0;clear c0
 by_cases al : i < ch.length
 ·obtain ⟨V, D, g1⟩ : ∃ V D, ch[i]? = some (V, D) := ⟨_, _, bN al⟩;obtain ⟨hj, gE⟩ := aj.2 _ (c7 g1);simp only at hj gE;obtain ⟨lN, rq⟩ := BF (ii := ii) gv g1;have aT := ZR V D gE (by omega);have q2 : ii < (ch.length : Int) := by omega
  have bO : 0 ≤ ii := by omega
  have dj : 0 < ch.length := by omega
  have aF : ii.toNat * 2 = 2 * i := by omega
  have GO : ii.toNat * 2 + 2 ≤ (ev ch).length := by rw [Fs]; omega
  have cg : eD (ev ch) (ii.toNat * 2) [.p (cc 2 V.length (bP V)), .p (cc 1 D.length (cA D))] = ev ch := by rw [aF]; exact Vp g1
  (repeat first | (with_reducible apply lG (id := 5) [0,1,2,3,4,5,6] [4000000]); kernel_rfl; kernel_rfl; rfl | refine c5 ?_ | refine iw ?_ | (with_reducible apply jW 6); (iterate 4 rfl); (omega); (assumption); rfl; kernel_rfl; rfl | (with_reducible apply n0 6); (iterate 3 rfl); (assumption); assumption; rfl; kernel_rfl; rfl);refine zl 6 rfl rfl rfl rfl dj rfl rfl GO rfl ?_;(refine a7 ?_);refine ⟨ch.length - (i + 1), lE bR dh db hot fnd ch (sG hv fv cv hot fnd ch), _, [(1, pb k rm ph I J T dirty bR dh db), (2, pb 0 0 0 0 0 0 false (.slice none 0 0) (.slice none 0 0) (.slice none 0 0))], by omega, ⟨i + 1, ii + 1, by omega, rfl, by omega, rfl, rfl, rfl⟩, fun k q af => ?_, rfl, ⟨rfl, rfl, rfl, rfl, rfl, trivial⟩, ⟨rfl, rfl, trivial⟩, rfl⟩
  have dZ : bK (lE bR dh db hot fnd ch (sG hv fv cv hot fnd ch)) 6 (⟨34, 2, db, ch.length, eD (ev ch) (ii.toNat * 2) [.p (cc 2 V.length (bP V)), .p (cc 1 D.length (cA D))]⟩ : bG) = lE bR dh db hot fnd ch (sG hv fv cv hot fnd ch) := by
   rw [cg]; exact ae5
  exact (congrFun dZ k).trans af
 ·have q2 : ¬ ii < (ch.length : Int) := by omega
  (refine a7 ?_)
  ((refine y0 rfl (cu rfl rfl rfl aN) (bB.refl _) rfl (fun j q h => ?_) ?_))
  ·match j with
   | 0 => cases h
   | 1 => exact ⟨_, rfl⟩
   | 2 => exact ⟨_, rfl⟩
   | 3 => exact ⟨_, rfl⟩
   | j + 4 => cases h
  ·exact ⟨bR, dh, db, rfl, rfl, rfl⟩
theorem aeX {b : Nat} {S : e0} {hv fv cv : Value} {hot fnd : List ao} {ch : List (List ao × List Int)} : bB (sG hv fv cv hot fnd ch) (dP b S hv fv cv hot fnd ch)
 | 0, _, h => by cases h
 | 1, _, h => h
 | 2, _, h => h
 | 3, _, h => h
 | k + 4, _, h => by cases h
theorem ae7 {b : Nat} {S : e0} {hv fv cv bR dh db : Value} {hot fnd : List ao} {ch : List (List ao × List Int)} : bV (lE bR dh db hot fnd ch (sG hv fv cv hot fnd ch)) (dP b S hv fv cv hot fnd ch) = lE bR dh db hot fnd ch (dP b S hv fv cv hot fnd ch) := by
 funext i
 match i with
 | 0 => rfl
 | 1 => rfl
 | 2 => rfl
 | 3 => rfl
 | 4 => rfl
 | 5 => rfl
 | 6 => rfl
 | i + 7 => rfl
theorem ae6 {hv fv cv : Value} {hot fnd : List ao} {ch : List (List ao × List Int)} {R : aI} : ∀ i r, R i = some r → ∃ aX, lE hv fv cv hot fnd ch R i = some aX := fun i r h => by
 by_cases rN : i = 6
 ·subst rN; exact ⟨_, cx _ _ _⟩
 ·by_cases kV : i = 5
  ·subst kV; exact ⟨_, rfl⟩
  ·by_cases dZ : i = 4
   ·subst dZ; exact ⟨_, rfl⟩
   ·exact ⟨r, by unfold lE; rw [cl _ _ rN, cl _ _ kV, cl _ _ dZ]; exact h⟩
section
variable {E : List (Int × bS)} {r rm : Nat}
theorem Z2 {s : bu.aV ao} (aU : s.hot.length ≤ 900000) (ar : s.fnd.length ≤ 900000) (aj : jD s.ch) {cs : List AC} {R : aI} (bj : dE E r rm s cs R) :
  dk ag 11 [rh] (cN 1000 cs) R (ol 1000 fun b0 au ay => ∃ hv fv cv, b0 = .w (.agg (pb r rm s.ph s.I s.J s.T s.dirty hv fv cv)) ∧ au = cs ∧ ay = lE hv fv cv s.hot s.fnd s.ch R) := by
 obtain ⟨hv, fv, cv, b, S, lk, hS, c6, ga, rfl, rfl⟩ := id bj;have aT := Z8 (k := (r : Int)) (rm := (rm : Int)) (ph := (s.ph : Int)) (I := (s.I : Int)) (J := (s.J : Int)) (T := (s.T : Int)) (dirty := s.dirty) (hv := hv) (fv := fv) (cv := cv) aU ar aj;refine dv (f := 11) Tryz.func11 rfl (dq rfl) (by exact eu rfl) ?_;(refine a7 ?_);refine Nc (l := _) (args := [_]) rfl rfl rfl rfl aT aeX rfl rfl ?_;rintro _ _ _ ⟨bR, dh, db, rfl, rfl, rfl⟩;refine ⟨rfl, ?_⟩;rw [ae7];(refine a7 ?_)
 ((refine eP rfl (cu rfl rfl rfl aN) rfl (bB.refl _) bj.closed rfl ae6 ?_))
 exact ⟨_, rfl, bR, dh, db, rfl, rfl, rfl⟩
end
instance aiQ : kR ag 69 68 5 40 := ⟨by kernel_rfl⟩
abbrev I4 : ah := aR (.func (.func 86) #[] #[])
theorem PU {x y : Int} : aC ag 87 [aK x y] (bk (gJ (x, y))) := by
 have cs : ((if y < x then y else x) ≥ -134217728 ∧ gJ (x, y) = decide ((if y > x then y else x) < 134217728)) ∨ (¬ (if y < x then y else x) ≥ -134217728 ∧ gJ (x, y) = false) := by
  by_cases h : (if y < x then y else x) ≥ -134217728
  ·refine .inl ⟨h, ?_⟩;rw [lD, sr, decide_eq_true_iff];show ((_ ≤ x ∧ x < _) ∧ _ ≤ y ∧ y < _) ↔ _
   split at h <;> split <;> omega
  ·refine .inr ⟨h, ?_⟩;cases ax : gJ (x, y) with
   | false => rfl
   | true =>
    obtain ⟨⟨a1, a2⟩, a3, a4⟩ : ((_ ≤ x ∧ x < _) ∧ _ ≤ y ∧ y < _) := sr.1 ax
    split at h <;> omega
 rcases cs with ⟨h, e⟩ | ⟨h, e⟩
 all_goals
  rw [e];refine bm (f := 87) Tryz.func87 rfl rfl rfl rfl ?_;(repeat first | refine ez ?_ | (with_reducible apply cW (c := true)); rfl; rfl; (exact cw (by omega)) | (with_reducible apply cW (c := false)); rfl; rfl; (exact c3 (by omega)))
  ((refine bc rfl (bf rfl aN) ?_))
  exact ah.aQ.refl _
abbrev wB (x : Int × bS) : Bool := !(gJ x.2.1 && gJ x.2.2)
theorem ac5 {o a b c d : Int} : aC ag 86 [.w (.agg [.c (.int .i64 a), .c (.int .i64 b), .c (.int .i64 c), .c (.int .i64 d), .c (.int .i64 o)])] (bk (wB (o, (a, b), (c, d)))) := by
 have aT := PU (x := a) (y := b);have bH := PU (x := c) (y := d);unfold wB;simp only;cases h1 : gJ (a, b) with
 | true =>
  rw [h1] at aT;rw [p0];refine bm (f := 86) Tryz.func86 rfl rfl rfl rfl ?_;(refine bY ?_)
  ((refine bc rfl (bf rfl aN) ?_))
  exact ah.aQ.refl _
 | false =>
  rw [h1] at aT;rw [Bool.false_and];refine bm (f := 86) Tryz.func86 rfl rfl rfl rfl ?_;(refine bY ?_)
  ((refine bc rfl (bf rfl aN) ?_))
  exact ah.aQ.refl _
def tl : List (Int × bS) → Int → Int
 | [], _ => -1
 | p :: l, i => if wB p = true then i else tl l (i + 1)
theorem Mi (p : Int × bS) (l : List (Int × bS)) (i : Int) : tl (p :: l) i = if wB p = true then i else tl l (i + 1) := rfl
theorem Mh : ∀ (l : List (Int × bS)) (i : Int), 0 ≤ i → (decide (tl l i ≥ 0)) = !gI (l.map Prod.snd)
 | [], i, h => rfl
 | p :: l, i, h => by
  have b5 := Mh l (i + 1) (by omega);have e : gI ((p :: l).map Prod.snd) = ((gJ p.2.1 && gJ p.2.2) && gI (l.map Prod.snd)) := rfl;rw [e, Mi];unfold wB;cases hp : (gJ p.2.1 && gJ p.2.2) with
  | false => rw [if_pos (show (!false) = true from rfl), Bool.false_and]; exact cw h
  | true => rw [if_neg (by decide), p0]; exact b5
def SE (E : List (Int × bS)) (k : Nat) (aL : List (Nat × ah)) (bd : List (Nat × List AC)) : Prop :=
 ∃ (i : Nat) (ii : Int), i ≤ E.length ∧ k = E.length - i ∧ ii = i ∧ tl E 0 = tl (E.drop i) ii ∧ bd = [] ∧ aL = [(0, jA E), (1, I4), (7, aH E.length), (8, aH ii)]
theorem adv {E : List (Int × bS)} (ap : E.length ≤ 4611686018427387904) : aC ag 120 [jA E, I4] (aH (tl E 0)) := by
 refine bm (f := 120) Tryz.func120 rfl rfl rfl rfl ?_;(refine eF ?_);refine s8 19 (SE E) E.length _ [] ⟨0, 0, dC _, rfl, rfl, rfl, rfl, rfl⟩ rfl ⟨rfl, rfl, rfl, rfl, trivial⟩ trivial rfl ?_;rintro n aL bd ⟨j, ee, ae, rfl, nl, gF, rfl, rfl⟩ c0;clear c0
 by_cases hp : j < E.length
 ·have p2 : ee < (E.length : Int) := by omega
  have p3 : 0 ≤ ee := by omega
  obtain ⟨o, a, b, c, d, g1⟩ : ∃ o a b c d, E[j]? = some (o, (a, b), (c, d)) := ⟨_, _, _, _, _, bN hp⟩;have lN := wK nl g1;have hd : E.drop j = (o, (a, b), (c, d)) :: E.drop (j + 1) := by rw [mN hp, (bM.1 g1).2]
  have gq := ac5 (o := o) (a := a) (b := b) (c := c) (d := d);rw [hd, Mi] at gF;cases ar : wB (o, (a, b), (c, d)) with
  | true =>
   rw [ar] at gF gq;rw [if_pos rfl] at gF;rw [gF];(refine bY ?_)
   ((refine bc rfl (bf rfl aN) ?_))
   exact ah.aQ.refl _
  | false =>
   rw [ar] at gF gq;rw [if_neg (by simp)] at gF;(refine bY ?_);exact ⟨E.length - (j + 1), _, [], by omega, ⟨j + 1, ee + 1, hp, rfl, by omega, gF, rfl, rfl⟩, rfl, ⟨rfl, rfl, rfl, rfl, trivial⟩, trivial, rfl⟩
 ·have e : j = E.length := by omega
  subst e;rw [List.drop_length] at gF;rw [show tl [] ee = -1 from rfl] at gF;rw [gF];(refine eF ?_)
  ((refine bc rfl (bf rfl aN) ?_))
  exact ah.aQ.refl _
theorem ade {E : List (Int × bS)} (ap : E.length ≤ 4611686018427387904) : aC ag 85 [jA E, I4] (bk (!gI (E.map Prod.snd))) := by
 have gq := adv ap;rw [← Mh E 0 (by decide)];refine bm (f := 85) Tryz.func85 rfl rfl rfl rfl ?_;(refine bY ?_)
 ((refine bc rfl (bf rfl aN) ?_))
 exact ah.aQ.refl _
theorem ac4 {E : List (Int × bS)} (ap : E.length ≤ 4611686018427387904) : aC ag 49 [jA E] (bk (gI (E.map Prod.snd))) := by
 have gq := ade ap;have e : gI (E.map Prod.snd) = !(!gI (E.map Prod.snd)) := (Bool.not_not _).symm;rw [e];generalize (!gI (E.map Prod.snd)) = q at *;refine bm (f := 49) Tryz.func49 rfl rfl rfl rfl ?_;(refine bY ?_)
 ((refine bc rfl (bf rfl aN) ?_))
 exact ah.aQ.refl _
theorem adb {E : List (Int × bS)} (ap : E.length ≤ 900000) : aC ag 51 [jA E] (jA E) := by
 refine bm (f := 51) Tryz.func51 rfl rfl rfl rfl ?_;(refine eF ?_);refine UZ 4 rfl ?_;intro b ab;cases b with
 | true =>
  have aD := kt (ab rfl);subst aD;clear ab;(refine eF ?_)
  ((refine bc rfl (bf rfl aN) ?_))
  exact O1 5
 | false =>
  clear ab;have z0 : 0 + E.length = E.length := jd _;(repeat first | (with_reducible apply Kb); rfl; rfl | (with_reducible apply J1); (iterate 3 rfl); (exact iY (by omega)); (omega); (assumption); (rfl); rfl | refine ez ?_)
  ((refine bc rfl (bf rfl aN) ?_))
  exact ah.aQ.refl _
section
variable {P : Program} {f : FuncId} {args : List ah} {cs : List AC} {R0 : aI} {Q : ah → List AC → aI → Prop}
theorem dk.at (k : Nat) (h : dk P f (rh :: args) (cN 1000 cs) R0 (ol 1000 Q)) (ek : args.all ah.aZ = true) (aj : cs.all AC.aZ = true) (al : ∀ b0 ds ay, Q b0 ds ay → b0.aZ = true ∧ ds.all AC.aZ = true) : dk P f (.w (.one (.own k 0)) :: args) (cN k cs) R0 (ol k Q) := by
 have h1 := h.a6 (mS 1000 k) (b4 := fun j => j) (ix := fun j => j) (fun _ => rfl) (fun _ => rfl)
 have aF : (ah.w (.one (.own 1000 0)) :: args).map (ah.a6 (swp 1000 k)) = .w (.one (.own k 0)) :: args := by
  have aM : args.map (ah.a6 (swp 1000 k)) = args := by
   conv => rhs; rw [← List.map_id args]
   exact nE fun x aa => uh (cB.1 ek x aa)
  rw [j4, aM];show ah.w (.one (.own (swp 1000 k 1000) 0)) :: args = _;rw [show swp 1000 k 1000 = k by unfold swp; simp]
 rw [aF, vw aj] at h1;refine ⟨fun U ad W vs cj cp cL => (h1.call U ad W vs cj cp cL).mono ?_⟩;rintro cX bh ⟨v, r, aG, ay, aY, cF, di, ⟨b6, m1, ba, ⟨ds, rfl, tB⟩, rfl, rfl, rfl⟩, me⟩;obtain ⟨c1, c2⟩ := al _ _ _ tB;rw [vw c2, uh c1] at me;exact ⟨v, b6, cN k ds, ba, aY, cF, di, ⟨ds, rfl, tB⟩, me⟩
end
def dz (k : Int) : Nat := (if k < 0 then 0 else if 28 < k then 28 else k).toNat
def eb (n : Int) : Nat := (lF n).toNat
theorem Ix (n : Int) : ((eb n : Nat) : Int) = lF n := by unfold eb lF; (repeat split) <;> omega
theorem Q1 (n : Int) : 1 ≤ eb n ∧ eb n ≤ 1024 := by unfold eb lF; (repeat split) <;> omega
theorem aeY (k : Int) : ((dz k : Nat) : Int) = if 28 < (if 0 > k then 0 else k) then 28 else (if 0 > k then 0 else k) := by unfold dz; (repeat split) <;> omega
theorem aeZ (k : Int) : dz k ≤ 28 := by unfold dz; (repeat split) <;> omega
theorem Iv {E : List (Int × bS)} {k n : Int} (h : gI (E.map Prod.snd) = true) (ak : E.length ≤ 300) : h9 E (dz k) (eb n) := ⟨aeZ k, h, ak, (Q1 n).1, (Q1 n).2⟩
abbrev gK : Value := .slice none 0 0
theorem O0 {b : Nat} {S : e0} {q : bG} : dP b S gK gK gK [] [] [] = bK (bK (bK (bK (bK gj 1 ⟨36, 2, gK, 0, []⟩) 2 ⟨36, 2, gK, 0, []⟩) 3 ⟨34, 2, gK, 0, []⟩) 0 q) 0 (jb (ea b) S) := by
 funext i
 match i with
 | 0 => rfl
 | 1 => rfl
 | 2 => rfl
 | 3 => rfl
 | i + 4 => rfl
theorem ZY {E : List (Int × bS)} {k n : Int} (ak : E.length ≤ 300) (h : gI (E.map Prod.snd) = true) : dk ag 28 [jA E, aH k, aH n] ca gj fun b0 aG ay => ∃ cs, b0 = .w (.one (.own 24 0)) ∧ aG = cN 24 cs ∧ dE E (dz k) (eb n) (fB (bx E (dz k) (eb n))) cs ay := by
 have aT := ac4 (E := E) (by omega);rw [h] at aT;have bH := ZX n;have et := adb (E := E) (by omega);have ie := aeY k
 by_cases aD : E = []
 ·subst aD;refine dv (f := 28) Tryz.func28 rfl (dq rfl) (by exact nP) ?_;refine lH 1 36 2 rfl ?_;refine lH 2 36 2 rfl ?_;refine lH 3 34 2 rfl ?_;(refine mU ?_);refine Ni 0 rfl rfl rfl rfl bH rfl rfl (fun p S jU => ?_);obtain ⟨b, rfl, hS⟩ := jU;rw [← Ix n] at hS;have ld := NU _ _ _ _ hS (by decide);(refine mU ?_);refine zm 0 rfl rfl rfl rfl ld rfl rfl rfl (fun v dm h => ?_);obtain ⟨rfl, fQ⟩ := h;(refine a7 ?_);have qh := dk.at 24 (Hn (E := []) (k := (dz k : Int)) (rm := (eb n : Int)) (ph := 0) (I := 0) (J := 0) (T := 0) (dirty := false) (hv := gK) (fv := gK) (cv := gK) (b := b) (lk := .c gK) rfl 4) rfl rfl (fun b0 ds ay h => by obtain ⟨rfl, rfl, _⟩ := h; exact ⟨rfl, rfl⟩);rw [← ie];refine kl 24 rfl rfl rfl rfl qh rfl rfl rfl rfl rfl ?_;(refine a7 ?_)
  ((refine Cm 24 rfl (bf rfl aN) rfl (bB.of_eq O0) rfl rfl ?_))
  exact ⟨_, rfl, rfl, gK, gK, gK, b, dm, .c gK, fQ, rfl, fun h => (by cases h), rfl, rfl⟩
 ·have fF : ¬ (E.length : Int) = 0 := fun aU => aD (kt (by omega));refine dv (f := 28) Tryz.func28 rfl (dq rfl) (by exact nP) ?_;refine lH 1 36 2 rfl ?_;refine lH 2 36 2 rfl ?_;refine lH 3 34 2 rfl ?_;(refine mU ?_);refine Ni 0 rfl rfl rfl rfl bH rfl rfl (fun p S jU => ?_);obtain ⟨b, rfl, hS⟩ := jU;rw [← Ix n] at hS;have ld := NU _ _ _ _ hS (by decide);(refine mU ?_);refine zm 0 rfl rfl rfl rfl ld rfl rfl rfl (fun v dm h => ?_);obtain ⟨rfl, fQ⟩ := h;(refine a7 ?_);rw [← ie]
  ((refine Cm 24 rfl (bf rfl aN) rfl (bB.of_eq O0) rfl rfl ?_))
  refine ⟨_, rfl, rfl, gK, gK, gK, b, dm, .c gK, fQ, rfl, ?_, ?_, rfl⟩
  ·unfold fB;rw [if_neg (by rw [h9.n]; omega)];intro h; cases h
  ·unfold fB;rw [if_neg (by rw [h9.n]; omega)]; rfl
end Go.Proofs.YtbcecodakfejaaaGreat
