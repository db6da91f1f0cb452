/-
  My own texts, without what this claim does not need. My own text.
-/
import Derived.Test.YtbcecodakfejaaaGreatSApartK13
set_option maxRecDepth 100000
set_option maxHeartbeats 64000000
set_option linter.unusedVariables false
set_option linter.unusedSimpArgs false
set_option linter.unusedSectionVars false
open Go.Proofs.Tryz renaming prog → ag
namespace Go.Proofs.YtbcecodakfejaaaGreat
open Go.RowKit
open bp
section
variable {E : List (Int × bU)} {r rm : Nat}
theorem Qz {b : Nat} {S : eQ} {hv fv cv v : Value} {hot fnd : List an} {ch l : List (List an × List Int)} : bA (dF b S hv fv cv hot fnd ch) 3 (vH v l) = dF b S hv fv v hot fnd l := by
  funext i
  match i with
  | 0 => rfl
  | 1 => rfl
  | 2 => rfl
  | 3 => rfl
  | i + 4 => rfl
theorem KH {ch : List (List an × List Int)} {i : Nat} {ii : Int} {V : List an} {D : List Int} (hi : ii = i) (h : i < ch.length) : eu (ew ch) (ii.toNat * 2) [.p (cl 2 V.length (bL V)), .p (cl 1 D.length (cu D))] = ew (ch.set i (V, D)) := by
  subst hi;rw [ks];have e : ch = ch.take i ++ ch[i] :: ch.drop (i + 1) := by rw [← ml h, jG]
  have hl : (ew (ch.take i)).length = i * 2 := by
    have := Br (f := o8) (z := 2) (fun _ => rfl) (ch.take i);unfold ew;rw [this, dS, oJ (by omega)]
  have aF : ew ch = ew (ch.take i) ++ (o8 ch[i] ++ ew (ch.drop (i + 1))) := (congrArg ew e).trans (by unfold ew; rw [List.flatMap_append, List.flatMap_cons]);rw [aF, It hl, List.set_eq_take_append_cons_drop, if_pos h];simp [ew, o8]
theorem Wj {p q : an} {bc : List an} (au : bc.Nodup) : iz (dy (decide ((2 : Int) ^ r * q.1 < 2 ^ r * p.1)) (decide ((2 : Int) ^ r * q.2 < 2 ^ r * p.2))) bc = fw p q bc := by
  rw [Bp, Bp];exact aft au (by rw [List.filter_eq_self.2 (fun _ _ => rfl)])
theorem ZE {s : bp.aS an} {V : List an} {D : List Int} {p q x : an} (al : r ≤ 28) (aj : kc s.ch) (g1 : s.ch[s.I]? = some (V, D)) (g2 : V[s.J]? = some p) (g3 : V[s.J + 1]? = some q) (g4 : s.hot[s.T]? = some x) (ey : ∀ d ∈ D, 1 ≤ d ∧ d ≤ 1048576)
    (hp : er r p.1 p.2 = true) (ak : er r q.1 q.2 = true) (hd : s.dirty = false) (aR : s.hot.length ≤ 1024) (wo : s.fnd.length ≤ 1024) (wq : (k2 (bu E r rm) p q x s.fnd).Nodup) (gL : s.ph = 2) : fM E r rm 56 [] s ln (rR (bu E r rm) s (V, D) p q (k2 (bu E r rm) p q x s.fnd)) := by
  obtain ⟨p1, p2⟩ := p;obtain ⟨q1, q2⟩ := q;obtain ⟨b8, cp⟩ := x;obtain ⟨hG, gH⟩ := aj.2 _ (c5 g1);simp only at hG gH;have bh := (bF.1 g1).1;have ki := (bF.1 g3).1;have cy := (bF.1 g4).1;have ar : fS (r : Int) r := ⟨al, .inr (.inr rfl)⟩;have aU := Pw (D := D) g2 g3 (by omega);have bD := acW (E := E.map Prod.snd) (R := rm) al (p := (p1, p2)) (q := (q1, q2)) (x := (b8, cp)) hp ak;have eg := C0 (pF ar hp) (pF ar ak);simp only at bD eg;have kb := abJ (a1 := 2 ^ r * p1) (a2 := 2 ^ r * p2) (b1 := 2 ^ r * q1) (b2 := 2 ^ r * q2);obtain ⟨mz, si⟩ := A9 (ii := (s.I : Int)) rfl g1;have Sk := YW (ii := (s.T : Int)) rfl g4;have i0 : (0 : Int) ≤ (s.I : Int) := by omega
  have i1 : (s.I : Int) < (s.ch.length : Int) := by omega
  have i2 : 0 < s.ch.length := by omega
  have t0 : (0 : Int) ≤ (s.T : Int) := by omega
  have t1 : (s.T : Int) < (s.hot.length : Int) := by omega
  have t2 : 0 < s.hot.length := by omega
  have WX : (s.J : Int) ≤ 1100 := by omega
  have cA := aj.1
 
  have split : ∀ bc : List an, bc = k2 (bu E r rm) (p1, p2) (q1, q2) (b8, cp) s.fnd → bc ≠ [] → bc.length ≤ 1100 → aC ag 100 [gT bc, vk (decide ((2 : Int) ^ r * q1 < 2 ^ r * p1)) (decide ((2 : Int) ^ r * q2 < 2 ^ r * p2))] (gT (fw (p1, p2) (q1, q2) bc)) ∧
      aC ag 99 [nV V D, aB s.J, gT (fw (p1, p2) (q1, q2) bc)] (.cj [.agg [.p (cl 2 (bp.bT V s.J (fw (p1, p2) (q1, q2) bc)).length (bL (bp.bT V s.J (fw (p1, p2) (q1, q2) bc)))), .p (cl 1 (ei D s.J bc.length).length (cu (ei D s.J bc.length)))], .one (.c (.bool true))]) := by
    intro bc XI bX XE;have au : bc.Nodup := by rw [XI]; exact wq
    have hlen : (fw (p1, p2) (q1, q2) bc).length = bc.length := (zW _ _ bc).length_eq;refine ⟨?_, ?_⟩
    · have := acg (fx := decide ((2 : Int) ^ r * q1 < 2 ^ r * p1)) (fy := decide ((2 : Int) ^ r * q2 < 2 ^ r * p2)) 1100 bc XE (by omega)
      rw [Wj (p := (p1, p2)) (q := (q1, q2)) au] at this;exact this
    · have := Zt V D s.J (fw (p1, p2) (q1, q2) bc) hG gH (by omega) (by omega) ey
      have Gn : (fw (p1, p2) (q1, q2) bc).isEmpty = false := by
        cases h : fw (p1, p2) (q1, q2) bc with
        | nil => rw [h] at hlen; exact absurd (j3 hlen.symm) bX
        | cons a l => rfl
      rw [Gn, hlen] at this;exact this
  rintro cs R jt;obtain ⟨hv, fv, cv, b, S, lk, hS, cK, fI, rfl, rfl⟩ := id jt;have dn : ∀ (I J T : Int) (fv : Value), (ep E r rm s.ph I J T s.dirty hv fv cv b lk).all AC.aV = true := fun I J T fv => by simp only [jI, mr, cK]; rfl
  unfold rR;simp only [show (bu E r rm).gp = fw from rfl];cases ik : iI (bu E r rm) (p1, p2) (q1, q2) (b8, cp) with
  | true =>
    rw [ik] at bD;have E8 : k2 (bu E r rm) (p1, p2) (q1, q2) (b8, cp) s.fnd = s.fnd ++ [(b8, cp)] := by unfold k2; rw [ik]; rfl
    rw [E8] at split ⊢;have XF : (s.fnd ++ [(b8, cp)]).length ≤ 1100 := by rw [cx, List.length_singleton]; omega
    have bX : s.fnd ++ [(b8, cp)] ≠ [] := by simp
    obtain ⟨my, An⟩ := split _ rfl bX XF;clear split wq ik;refine de (f := 56) Tryz.func56 rfl (db rfl) (by exact ed rfl) ?_;(repeat first | (with_reducible apply dj (id := 1) [10,0,1,2,3,4,5,6,7,8,9,11]); kernel_rfl; kernel_rfl; rfl | (with_reducible apply dj (id := 2) [6,0,1,2,3,4,5,7]); kernel_rfl; kernel_rfl; rfl | (with_reducible apply dj (id := 3) [10,0,1,2,3,4,5,6,7,8,9,11]); kernel_rfl; kernel_rfl; rfl | (with_reducible apply dj (id := 4) [0,1,2,3,4,5,6]); kernel_rfl; kernel_rfl; rfl | (with_reducible apply ll (id := 5) [0,1,2,3,4,5,6,7,8,9,10] [3000048]); kernel_rfl; kernel_rfl; rfl | refine cF ?_ | refine ia ?_ | (with_reducible apply jd 1); (iterate 4 rfl); (omega); (assumption); rfl; kernel_rfl; rfl | (with_reducible apply jd 3); (iterate 4 rfl); (omega); (assumption); rfl; kernel_rfl; rfl | (with_reducible apply mQ 1); (iterate 3 rfl); (assumption); assumption; rfl; kernel_rfl; rfl | (with_reducible apply mQ 3); (iterate 3 rfl); (assumption); assumption; rfl; kernel_rfl; rfl);refine qs 2 rfl rfl rfl rfl ?q1 ?q2 rfl rfl (fun v1 hZ => ?_)
    case q1 => exact kL (by show s.fnd.length + 1 ≤ 1000000; omega)
    case q2 => show (s.fnd.length + 1) * 16 ≤ 140737488355328; omega
    (repeat first | (with_reducible apply dj (id := 7) [0,1,2,3,4,5,6,7,8,9]); kernel_rfl; kernel_rfl; rfl | refine cF ?_ | (with_reducible apply mP 1); (iterate 4 rfl); kernel_rfl; rfl);refine Du (dF b S hv v1 cv s.hot (s.fnd ++ [(b8, cp)]) s.ch) (bt.of_eq ad8.symm) ?_
    by_cases sR : s.T + 1 < s.hot.length
    · rw [if_pos sR]
      have yl : (s.T : Int) + 1 < (s.hot.length : Int) := by omega
      have fq : dm E r rm { s with fnd := s.fnd ++ [(b8, cp)], T := s.T + 1 } (ep E r rm s.ph s.I s.J ((s.T : Int) + 1) s.dirty hv v1 cv b lk) (dF b S hv v1 cv s.hot (s.fnd ++ [(b8, cp)]) s.ch) := ⟨hv, v1, cv, b, S, lk, hS, cK, fI, rfl, rfl⟩;(refine aZ ?_)
      ((refine eH rfl aK rfl (bt.refl _) fq.closed rfl eX ?_))
      exact ⟨_, rfl, rfl, fq⟩
    · rw [if_neg sR, if_neg bX]
      have yl : ¬ (s.T : Int) + 1 < (s.hot.length : Int) := by omega
      have Gn : ¬ ((s.fnd ++ [(b8, cp)]).length : Int) = 0 := fun h => bX (j3 (by omega));refine QX 2 1000 9 (iw v1 (s.fnd ++ [(b8, cp)])) rfl rfl rfl ?_;refine nS 2 36 2 rfl ?_
      refine Du (dF b S hv (.slice none 0 0) cv s.hot [] s.ch) (fun k q af => by
        match k with
        | 0 => exact af
        | 1 => exact af
        | 2 => exact af
        | 3 => exact af
        | k + 4 => cases af) ?_
      have fq : dm E r rm { s with T := 0, fnd := [], ch := s.ch.set s.I (bp.bT V s.J (fw (p1, p2) (q1, q2) (s.fnd ++ [(b8, cp)])), ei D s.J (s.fnd ++ [(b8, cp)]).length) } (ep E r rm s.ph s.I s.J 0 s.dirty hv (.slice none 0 0) cv b lk) (dF b S hv (.slice none 0 0) cv s.hot [] (s.ch.set s.I (bp.bT V s.J (fw (p1, p2) (q1, q2) (s.fnd ++ [(b8, cp)])), ei D s.J (s.fnd ++ [(b8, cp)]).length))) := ⟨hv, _, cv, b, S, lk, hS, cK, (fun h => absurd (gL.symm.trans (show s.ph = 3 from h)) (by decide)), rfl, rfl⟩
      have mO : bA (dF b S hv (.slice none 0 0) cv s.hot [] s.ch) 3 ⟨34, 2, cv, s.ch.length, eu (ew s.ch) ((s.I : Int).toNat * 2) [.p (cl 2 (bp.bT V s.J (fw (p1, p2) (q1, q2) (s.fnd ++ [(b8, cp)]))).length (bL (bp.bT V s.J (fw (p1, p2) (q1, q2) (s.fnd ++ [(b8, cp)]))))), .p (cl 1 (ei D s.J (s.fnd ++ [(b8, cp)]).length).length (cu (ei D s.J (s.fnd ++ [(b8, cp)]).length)))]⟩ = dF b S hv (.slice none 0 0) cv s.hot [] (s.ch.set s.I (bp.bT V s.J (fw (p1, p2) (q1, q2) (s.fnd ++ [(b8, cp)])), ei D s.J (s.fnd ++ [(b8, cp)]).length)) := by
        rw [KH rfl bh, show s.ch.length = (s.ch.set s.I (bp.bT V s.J (fw (p1, p2) (q1, q2) (s.fnd ++ [(b8, cp)])), ei D s.J (s.fnd ++ [(b8, cp)]).length)).length from (List.length_set ..).symm];exact Qz
      generalize GK : bp.bT V s.J (fw (p1, p2) (q1, q2) (s.fnd ++ [(b8, cp)])) = Jo at *;generalize GL : ei D s.J (s.fnd ++ [(b8, cp)]).length = vp at *;generalize M1 : fw (p1, p2) (q1, q2) (s.fnd ++ [(b8, cp)]) = L' at *;(repeat first | (with_reducible apply ll (id := 12) [0,1,2,3,4,5,6,7,8,9,10,11,12,13,14,15,16,17,18,19,20,21,22,23,24,25,26,27,28,29,30,31,32] [4000000]); kernel_rfl; kernel_rfl; rfl | refine cF ?_ | refine ia ?_ | (with_reducible apply jd 3); (iterate 4 rfl); (omega); (assumption); rfl; kernel_rfl; rfl);refine yR 3 rfl rfl rfl rfl i2 rfl rfl mz.1 rfl ?_;(refine aZ ?_)
      ((refine eH rfl aK rfl (bt.of_eq mO.symm) fq.closed rfl eX ?_))
      exact ⟨_, rfl, rfl, fq⟩
  | false =>
    rw [ik] at bD;have E8 : k2 (bu E r rm) (p1, p2) (q1, q2) (b8, cp) s.fnd = s.fnd := by unfold k2; rw [ik]; rfl
    rw [E8] at split ⊢;have ahk := cy
    by_cases bX : s.fnd = []
    · clear split wq ik
      have cW : ({ s with fnd := s.fnd } : bp.aS an) = s := rfl;have aA : (s.fnd.length : Int) = 0 := by rw [bX]; rfl
      have dV := NB (E := E) (r := r) (rm := rm) (s := { s with T := 0, fnd := [], J := s.J + 1 }) hd rfl aj bh (by show s.J + 1 ≤ 1100; omega) gL;have k3 : dm E r rm { s with T := 0, fnd := [], J := s.J + 1 } (ep E r rm s.ph s.I ((s.J : Int) + 1) 0 s.dirty hv fv cv b lk) (dF b S hv fv cv s.hot s.fnd s.ch) := ⟨hv, fv, cv, b, S, lk, hS, cK, fI, rfl, by rw [bX]⟩
      by_cases sR : s.T + 1 < s.hot.length
      · rw [if_pos sR]
        have yl : (s.T : Int) + 1 < (s.hot.length : Int) := by omega
        have fq : dm E r rm { s with fnd := s.fnd, T := s.T + 1 } (ep E r rm s.ph s.I s.J ((s.T : Int) + 1) s.dirty hv fv cv b lk) (dF b S hv fv cv s.hot s.fnd s.ch) := ⟨hv, fv, cv, b, S, lk, hS, cK, fI, rfl, rfl⟩;refine de (f := 56) Tryz.func56 rfl (db rfl) (by exact ed rfl) ?_;(repeat first | (with_reducible apply dj (id := 1) [10,0,1,2,3,4,5,6,7,8,9,11]); kernel_rfl; kernel_rfl; rfl | (with_reducible apply dj (id := 2) [6,0,1,2,3,4,5,7]); kernel_rfl; kernel_rfl; rfl | (with_reducible apply dj (id := 3) [10,0,1,2,3,4,5,6,7,8,9,11]); kernel_rfl; kernel_rfl; rfl | (with_reducible apply dj (id := 4) [0,1,2,3,4,5,6]); kernel_rfl; kernel_rfl; rfl | (with_reducible apply dj (id := 7) [0,1,2,3,4,5,6,7,8,9]); kernel_rfl; kernel_rfl; rfl | refine cF ?_ | refine ia ?_ | (with_reducible apply mP 1); (iterate 4 rfl); kernel_rfl; rfl | (with_reducible apply jd 1); (iterate 4 rfl); (omega); (assumption); rfl; kernel_rfl; rfl | (with_reducible apply jd 3); (iterate 4 rfl); (omega); (assumption); rfl; kernel_rfl; rfl | (with_reducible apply mQ 1); (iterate 3 rfl); (assumption); assumption; rfl; kernel_rfl; rfl | (with_reducible apply mQ 3); (iterate 3 rfl); (assumption); assumption; rfl; kernel_rfl; rfl)
        ((refine eH rfl aK rfl (bt.refl _) fq.closed rfl eX ?_))
        exact ⟨_, rfl, rfl, fq⟩
      · rw [if_neg sR, if_pos bX]
        have yl : ¬ (s.T : Int) + 1 < (s.hot.length : Int) := by omega
        refine de (f := 56) Tryz.func56 rfl (db rfl) (by exact ed rfl) ?_;(repeat first | (with_reducible apply dj (id := 1) [10,0,1,2,3,4,5,6,7,8,9,11]); kernel_rfl; kernel_rfl; rfl | (with_reducible apply dj (id := 2) [6,0,1,2,3,4,5,7]); kernel_rfl; kernel_rfl; rfl | (with_reducible apply dj (id := 3) [10,0,1,2,3,4,5,6,7,8,9,11]); kernel_rfl; kernel_rfl; rfl | (with_reducible apply dj (id := 4) [0,1,2,3,4,5,6]); kernel_rfl; kernel_rfl; rfl | (with_reducible apply dj (id := 7) [0,1,2,3,4,5,6,7,8,9]); kernel_rfl; kernel_rfl; rfl | refine cF ?_ | refine ia ?_ | (with_reducible apply mP 1); (iterate 4 rfl); kernel_rfl; rfl | (with_reducible apply mP 2); (iterate 4 rfl); kernel_rfl; rfl | (with_reducible apply jd 1); (iterate 4 rfl); (omega); (assumption); rfl; kernel_rfl; rfl | (with_reducible apply jd 3); (iterate 4 rfl); (omega); (assumption); rfl; kernel_rfl; rfl | (with_reducible apply mQ 1); (iterate 3 rfl); (assumption); assumption; rfl; kernel_rfl; rfl | (with_reducible apply mQ 3); (iterate 3 rfl); (assumption); assumption; rfl; kernel_rfl; rfl);refine hY rfl rfl rfl rfl rfl rfl rfl rfl dV k3 (fun aq aw FI => ?_);(refine aZ ?_);obtain ⟨wF, Bt, Bc, dz, xG, Cs, BF, BZ, BX, rfl, rfl⟩ := id FI
        ((refine eH rfl aK rfl (bt.refl _) FI.closed rfl eX ?_))
        exact ⟨_, rfl, rfl, FI⟩
    obtain ⟨my, An⟩ := split _ rfl bX (by omega);clear split wq ik;refine de (f := 56) Tryz.func56 rfl (db rfl) (by exact ed rfl) ?_;(repeat first | (with_reducible apply dj (id := 1) [10,0,1,2,3,4,5,6,7,8,9,11]); kernel_rfl; kernel_rfl; rfl | (with_reducible apply dj (id := 2) [6,0,1,2,3,4,5,7]); kernel_rfl; kernel_rfl; rfl | (with_reducible apply dj (id := 3) [10,0,1,2,3,4,5,6,7,8,9,11]); kernel_rfl; kernel_rfl; rfl | (with_reducible apply dj (id := 4) [0,1,2,3,4,5,6]); kernel_rfl; kernel_rfl; rfl | (with_reducible apply dj (id := 7) [0,1,2,3,4,5,6,7,8,9]); kernel_rfl; kernel_rfl; rfl | refine cF ?_ | refine ia ?_ | (with_reducible apply mP 1); (iterate 4 rfl); kernel_rfl; rfl | (with_reducible apply jd 1); (iterate 4 rfl); (omega); (assumption); rfl; kernel_rfl; rfl | (with_reducible apply jd 3); (iterate 4 rfl); (omega); (assumption); rfl; kernel_rfl; rfl | (with_reducible apply mQ 1); (iterate 3 rfl); (assumption); assumption; rfl; kernel_rfl; rfl | (with_reducible apply mQ 3); (iterate 3 rfl); (assumption); assumption; rfl; kernel_rfl; rfl)
    by_cases sR : s.T + 1 < s.hot.length
    · rw [if_pos sR]
      have yl : (s.T : Int) + 1 < (s.hot.length : Int) := by omega
      have fq : dm E r rm { s with fnd := s.fnd, T := s.T + 1 } (ep E r rm s.ph s.I s.J ((s.T : Int) + 1) s.dirty hv fv cv b lk) (dF b S hv fv cv s.hot (s.fnd) s.ch) := ⟨hv, fv, cv, b, S, lk, hS, cK, fI, rfl, rfl⟩;(refine aZ ?_)
      ((refine eH rfl aK rfl (bt.refl _) fq.closed rfl eX ?_))
      exact ⟨_, rfl, rfl, fq⟩
    · rw [if_neg sR, if_neg bX]
      have yl : ¬ (s.T : Int) + 1 < (s.hot.length : Int) := by omega
      have Gn : ¬ ((s.fnd).length : Int) = 0 := fun h => bX (j3 (by omega));refine QX 2 1000 9 (iw fv (s.fnd)) rfl rfl rfl ?_;refine nS 2 36 2 rfl ?_
      refine Du (dF b S hv (.slice none 0 0) cv s.hot [] s.ch) (fun k q af => by
        match k with
        | 0 => exact af
        | 1 => exact af
        | 2 => exact af
        | 3 => exact af
        | k + 4 => cases af) ?_
      have fq : dm E r rm { s with T := 0, fnd := [], ch := s.ch.set s.I (bp.bT V s.J (fw (p1, p2) (q1, q2) (s.fnd)), ei D s.J (s.fnd).length) } (ep E r rm s.ph s.I s.J 0 s.dirty hv (.slice none 0 0) cv b lk) (dF b S hv (.slice none 0 0) cv s.hot [] (s.ch.set s.I (bp.bT V s.J (fw (p1, p2) (q1, q2) (s.fnd)), ei D s.J (s.fnd).length))) := ⟨hv, _, cv, b, S, lk, hS, cK, (fun h => absurd (gL.symm.trans (show s.ph = 3 from h)) (by decide)), rfl, rfl⟩
      have mO : bA (dF b S hv (.slice none 0 0) cv s.hot [] s.ch) 3 ⟨34, 2, cv, s.ch.length, eu (ew s.ch) ((s.I : Int).toNat * 2) [.p (cl 2 (bp.bT V s.J (fw (p1, p2) (q1, q2) (s.fnd))).length (bL (bp.bT V s.J (fw (p1, p2) (q1, q2) (s.fnd))))), .p (cl 1 (ei D s.J (s.fnd).length).length (cu (ei D s.J (s.fnd).length)))]⟩ = dF b S hv (.slice none 0 0) cv s.hot [] (s.ch.set s.I (bp.bT V s.J (fw (p1, p2) (q1, q2) (s.fnd)), ei D s.J (s.fnd).length)) := by
        rw [KH rfl bh, show s.ch.length = (s.ch.set s.I (bp.bT V s.J (fw (p1, p2) (q1, q2) s.fnd), ei D s.J s.fnd.length)).length from (List.length_set ..).symm];exact Qz
      generalize GK : bp.bT V s.J (fw (p1, p2) (q1, q2) (s.fnd)) = Jo at *;generalize GL : ei D s.J (s.fnd).length = vp at *;generalize M1 : fw (p1, p2) (q1, q2) (s.fnd) = L' at *;(repeat first | (with_reducible apply ll (id := 12) [0,1,2,3,4,5,6,7,8,9,10,11,12,13,14,15,16,17,18,19,20,21,22,23,24,25,26,27,28,29,30,31,32] [4000000]); kernel_rfl; kernel_rfl; rfl | refine cF ?_ | refine ia ?_ | (with_reducible apply jd 3); (iterate 4 rfl); (omega); (assumption); rfl; kernel_rfl; rfl);refine yR 3 rfl rfl rfl rfl i2 rfl rfl mz.1 rfl ?_;(refine aZ ?_)
      ((refine eH rfl aK rfl (bt.of_eq mO.symm) fq.closed rfl eX ?_))
      exact ⟨_, rfl, rfl, fq⟩
end
section
variable {P : Program} {R : aG} {s : az} {ops : Array Oper} {dr : Option (List Nat)} {ty : Nat} {pos : String} {after : Array Edge} {guard : Option (Nat × Bool)} {K : aG → az → Prop} {rest : List Oper}
theorem B7 {bs : List Value} {dst : Option Nat} {f : FuncId} {g : Operand} {aL : Array TypeId} {l : List Operand} {args : List ah} {m0 : Mem} {R0 : aG} {Post : ah → Mem → aG → Prop} [E : Enters P f] (hw : want ops ⟨dst, .call ⟨.value g, l.toArray, aL⟩, ty, pos, after, guard⟩ s = some true) (hm : dL dr ⟨dst, .call ⟨.value g, l.toArray, aL⟩, ty, pos, after, guard⟩ = true)
  (ao : s.look g = some (aM (.func (.func f) bs.toArray #[]))) (ab : bs.all A4 = true) (aH : bs.map (fun b => some (wT b)) ++ l.map s.look = args.map some) (hp : cY P f args m0 R0 Post) (ay : ∀ x ∈ args, ∀ j, x.owns j → ∃ cs, m0 j = some cs) (pq : ∀ k cs, m0 k = some cs → s.mem k = some cs ∧ (oN dr k = true ∨ ∀ r aD aw, Post r aD aw → aD k = some cs)) (al : bt R0 R) (fs : ∀ k cs x j, m0 k = some cs → x ∈ cs → x.owns j → ∃ aq, m0 j = some aq) (hd : kC dst s.n = true)
  (h : ∀ r aD aw, Post r aD aw → (∀ k aq, aD k = some aq → (∃ cs, m0 k = some cs) ∨ (s.mem k = none ∧ k < s.n)) ∧ ct P ops dr K rest (bJ aw R) ((s.over aD).put dst r)) : ct P ops dr K (⟨dst, .call ⟨.value g, l.toArray, aL⟩, ty, pos, after, guard⟩ :: rest) R s := by
 refine ⟨true, hw, K5 hd, .inr (.inr (.inr (.inr (.inl ⟨rfl, hm, f, args, m0, R0, Post, ⟨⟨_, g, rfl, rfl, .inl ⟨bs, ao, ?_, ab⟩⟩, E.h⟩, hp, ay, pq, al, fs, fun r aD aw h1 _ _ _ => h r aD aw h1⟩))))⟩;simpa using aH
theorem UP (g e off : Nat) (cs : List AC) : mY g off = jn (iG g e cs).v off := by
 show mY g off = .pointer (some ((⟨g, 0, none⟩ : Addr).add off));rw [AO, jj]
theorem s7 {x : Operand} {d lt off g e : Nat} {cs : List AC} {c1 : AC} (i : Nat) [T : e5 P lt false 1] (hi : R i = some (iG g e cs)) (hw : want ops ⟨some d, .load lt x, ty, pos, after, guard⟩ s = some true) (aa : s.look x = some (aM (mY g off))) (aI : cs[off]? = some c1) (aj : (ah.w (.one c1)).aV = true) (al : tD ops dr (some d) = true) (hd : Nat.blt d s.n = true) (h : ct P ops dr K rest R (s.put (some d) (.w (.one c1)))) : ct P ops dr K (⟨some d, .load lt x, ty, pos, after, guard⟩ :: rest) R s :=
 yN i hi hw (by rw [aa, UP g e off cs]) Nat.one_pos aI aj al hd h
end
theorem yt {P : Program} {fn : Func} {l : List ResultVar} {xs : List br} {R R0 bg : aG} {s : az} {Post : ah → Mem → aG → Prop} (al : fn.results = l.toArray) (h : l.map (iy P s) = xs.map some) (ar : bt bg R) (aa : (packed xs).aV = true) (aA : ∀ i r, R0 i = some r → ∃ aT, bg i = some aT) (hp : Post (packed xs) bW bg) : sX P fn bW R0 Post R s :=
 ⟨xs, packed xs, bW, bg, by rw [al]; exact h, .refl _, hp, fun k c h => (by cases h), ar, fun j ae => absurd ae (ah.dd aa j), fun k c x j h => (by cases h), fun k c h => (by cases h), aA⟩
theorem dm.n4 {E : List (Int × bU)} {r rm : Nat} {s : bp.aS an} {cs : List AC} {R : aG} (h : dm E r rm s cs R) : R 9 = none ∧ cs.all AC.aV = true ∧ 0 < cs.length := by
 refine ⟨?_, h.closed, ?_⟩
 ·obtain ⟨_, _, _, _, _, _, _, _, _, _, rfl⟩ := h; rfl
 ·obtain ⟨_, _, _, _, _, _, _, _, _, rfl, _⟩ := h; exact jk _
section
variable {E : List (Int × bU)} {r rm : Nat}
theorem Dl {f : FuncId} {s s1 : bp.aS an} {v : ah} {cs : List AC} {R : aG} (GJ : v.aV = true) (hp : fM E r rm f [] s v s1) (bh : dm E r rm s cs R) (g e : Nat) : cY ag f [aM (dO g)] bW (bA R 9 (iG g e cs)) fun bR aD aw => ∃ aq bg bm, (bR = v ∧ dm E r rm s1 aq bg) ∧ aD = bW ∧ aw = bA bg 9 (iG g bm aq) := by
 have h := (hp cs R bh).afN 9 g e rfl bh.n4.2.1 bh.n4.2.2 bh.n4.1 (fun bR aD aw ak => by
  obtain ⟨aq, rfl, rfl, ak⟩ := ak;exact ⟨GJ, ak.n4.1, aq, rfl, ak.n4.2.1, ak.n4.2.2⟩)
 refine ⟨fun U ad W vs cH cB cI => (h.call U ad W vs cH cB cI).mono ?_⟩;rintro cW bb ⟨v1, b9, aD, aw, aY, cq, q0, ⟨aq, bg, bm, ⟨sF, he, ak⟩, rfl, rfl⟩, lM⟩
 have : sF = aq := by
  have h1 : cE 1000 aq 1000 = some aq := by unfold cE; exact cf _ _ _
  rw [he] at h1;exact (hj h1).2.symm
 subst this;exact ⟨v1, b9, bW, _, aY, cq, q0, ⟨sF, bg, bm, ak, rfl, rfl⟩, lM⟩
theorem Dk {f : FuncId} {args : List ah} {s s1 : bp.aS an} {v : ah} (GJ : v.aV = true) (dW : args.all ah.aV = true) (h : ∀ cs R, dm E r rm s cs R → ∀ g e, cY ag f (aM (dO g) :: args) bW (bA R 9 (iG g e cs)) fun bR aD aw => ∃ aq bg bm, (bR = v ∧ dm E r rm s1 aq bg) ∧ aD = bW ∧ aw = bA bg 9 (iG g bm aq)) : fM E r rm f args s v s1 := by
 intro cs R bh;refine cY.afM 9 (fun g e => ?_) dW bh.n4.2.1 bh.n4.2.2 bh.n4.1 (fun bR aq aw ak => ?_)
 ·refine ⟨fun U ad W vs cH cB cI => ((h cs R bh g e).call U ad W vs cH cB cI).mono ?_⟩;rintro cW bb ⟨v1, b9, aD, aw, aY, cq, q0, ⟨aq, bg, bm, ak, rfl, rfl⟩, lM⟩;exact ⟨v1, b9, bW, _, aY, cq, q0, ⟨aq, bg, bm, ⟨aq, rfl, ak⟩, rfl, rfl⟩, lM⟩
 ·obtain ⟨sF, he, rfl, ak⟩ := ak
  have : sF = aq := by
   have h1 : cE 1000 aq 1000 = some aq := by unfold cE; exact cf _ _ _
   rw [he] at h1;exact (hj h1).2.symm
  subst this;exact ⟨GJ, ak.n4.1, ak.n4.2.1, ak.n4.2.2⟩
theorem Di {s s1 : bp.aS an} {cs aq : List AC} {R aw : aG} {g e bm : Nat} (h : dm E r rm s cs R) (aJ : dm E r rm s1 aq aw) : ∀ i q, bA R 9 (iG g e cs) i = some q → ∃ cd, bA aw 9 (iG g bm aq) i = some cd := by
 obtain ⟨_, _, _, _, _, _, _, _, _, _, rfl⟩ := h;obtain ⟨_, _, _, _, _, _, _, _, _, _, rfl⟩ := aJ;intro i q ak
 by_cases mF : i = 9
 ·subst mF; exact ⟨_, cf _ _ _⟩
 ·rw [b3 _ _ mF] at ak;obtain ⟨cd, oj⟩ := eX i q ak;exact ⟨cd, by rw [b3 _ _ mF]; exact oj⟩
theorem Dj {s s1 : bp.aS an} {cs aq : List AC} {R aw : aG} {g e bm : Nat} (h : dm E r rm s cs R) (aJ : dm E r rm s1 aq aw) : bJ (bA aw 9 (iG g bm aq)) (bA R 9 (iG g e cs)) = bA aw 9 (iG g bm aq) := by
 have ay := h.bJ aJ;funext i
 by_cases mF : i = 9
 ·subst mF; exact (hk (cf _ _ _)).trans (cf _ _ _).symm
 ·have : bJ aw R i = aw i := congrFun ay i;unfold bJ at this ⊢;rw [b3 _ _ mF, b3 _ _ mF]; exact this
theorem Zw {s s1 : bp.aS an} (gL : s.ph = 0) (hp : fM E r rm 54 [] s ln s1) : fM E r rm 30 [] s (bf true) s1 := by
 refine Dk rfl rfl fun cs R bh g e => ?_;have aU := Dl rfl hp bh g e;obtain ⟨ph, I, J, T, dirty, hot, fnd, ch⟩ := s;obtain rfl : ph = 0 := gL;obtain ⟨hv, fv, cv, b, S, lk, hS, cK, fI, rfl, rfl⟩ := id bh;refine de (f := 30) Tryz.func30 rfl (db rfl) (by exact nu) ?_;(refine aZ ?_);refine s7 9 rfl rfl rfl rfl rfl rfl rfl ?_;(refine aZ ?_);refine s7 9 rfl rfl rfl rfl rfl rfl rfl ?_;(refine aZ ?_);refine B7 (bs := [dO g]) (args := [aM (dO g)]) (l := []) rfl rfl rfl rfl rfl aU (fun x aa j ae => by simp at aa; subst aa; exact absurd ae (iR _ j)) (fun k c h => by cases h) (bt.refl _) (fun k c x j h => by cases h) rfl (fun bR aD aw ak => ?_);obtain ⟨aq, bg, bm, ⟨rfl, b0⟩, rfl, rfl⟩ := ak;refine ⟨fun k c h => (by cases h), ?_⟩;rw [Dj bh b0, tp];(refine aZ ?_)
 ((refine yt rfl (a6 rfl aK) (bt.refl _) rfl (Di bh b0) ?_))
 exact ⟨aq, bg, bm, ⟨rfl, b0⟩, rfl, rfl⟩
theorem Zx {s s1 : bp.aS an} (gL : s.ph = 1) (hp : fM E r rm 55 [] s ln s1) : fM E r rm 30 [] s (bf true) s1 := by
 refine Dk rfl rfl fun cs R bh g e => ?_;have aU := Dl rfl hp bh g e;obtain ⟨ph, I, J, T, dirty, hot, fnd, ch⟩ := s;obtain rfl : ph = 1 := gL;obtain ⟨hv, fv, cv, b, S, lk, hS, cK, fI, rfl, rfl⟩ := id bh;refine de (f := 30) Tryz.func30 rfl (db rfl) (by exact nu) ?_;(refine aZ ?_);refine s7 9 rfl rfl rfl rfl rfl rfl rfl ?_;(refine aZ ?_);refine s7 9 rfl rfl rfl rfl rfl rfl rfl ?_;(refine aZ ?_);refine B7 (bs := [dO g]) (args := [aM (dO g)]) (l := []) rfl rfl rfl rfl rfl aU (fun x aa j ae => by simp at aa; subst aa; exact absurd ae (iR _ j)) (fun k c h => by cases h) (bt.refl _) (fun k c x j h => by cases h) rfl (fun bR aD aw ak => ?_);obtain ⟨aq, bg, bm, ⟨rfl, b0⟩, rfl, rfl⟩ := ak;refine ⟨fun k c h => (by cases h), ?_⟩;rw [Dj bh b0, tp];(refine aZ ?_)
 ((refine yt rfl (a6 rfl aK) (bt.refl _) rfl (Di bh b0) ?_))
 exact ⟨aq, bg, bm, ⟨rfl, b0⟩, rfl, rfl⟩
theorem Zy {s s1 : bp.aS an} (gL : s.ph = 2) (hp : fM E r rm 56 [] s ln s1) : fM E r rm 30 [] s (bf true) s1 := by
 refine Dk rfl rfl fun cs R bh g e => ?_;have aU := Dl rfl hp bh g e;obtain ⟨ph, I, J, T, dirty, hot, fnd, ch⟩ := s;obtain rfl : ph = 2 := gL;obtain ⟨hv, fv, cv, b, S, lk, hS, cK, fI, rfl, rfl⟩ := id bh;refine de (f := 30) Tryz.func30 rfl (db rfl) (by exact nu) ?_;(refine aZ ?_);refine s7 9 rfl rfl rfl rfl rfl rfl rfl ?_;(refine aZ ?_);refine s7 9 rfl rfl rfl rfl rfl rfl rfl ?_;(refine aZ ?_);refine B7 (bs := [dO g]) (args := [aM (dO g)]) (l := []) rfl rfl rfl rfl rfl aU (fun x aa j ae => by simp at aa; subst aa; exact absurd ae (iR _ j)) (fun k c h => by cases h) (bt.refl _) (fun k c x j h => by cases h) rfl (fun bR aD aw ak => ?_);obtain ⟨aq, bg, bm, ⟨rfl, b0⟩, rfl, rfl⟩ := ak;refine ⟨fun k c h => (by cases h), ?_⟩;rw [Dj bh b0, tp];(refine aZ ?_)
 ((refine yt rfl (a6 rfl aK) (bt.refl _) rfl (Di bh b0) ?_))
 exact ⟨aq, bg, bm, ⟨rfl, b0⟩, rfl, rfl⟩
theorem Zz {s s1 : bp.aS an} (gL : s.ph = 3) (hp : fM E r rm 57 [] s ln s1) : fM E r rm 30 [] s (bf true) s1 := by
 refine Dk rfl rfl fun cs R bh g e => ?_;have aU := Dl rfl hp bh g e;obtain ⟨ph, I, J, T, dirty, hot, fnd, ch⟩ := s;obtain rfl : ph = 3 := gL;obtain ⟨hv, fv, cv, b, S, lk, hS, cK, fI, rfl, rfl⟩ := id bh;refine de (f := 30) Tryz.func30 rfl (db rfl) (by exact nu) ?_;(refine aZ ?_);refine s7 9 rfl rfl rfl rfl rfl rfl rfl ?_;(refine aZ ?_);refine s7 9 rfl rfl rfl rfl rfl rfl rfl ?_;(refine aZ ?_);refine B7 (bs := [dO g]) (args := [aM (dO g)]) (l := []) rfl rfl rfl rfl rfl aU (fun x aa j ae => by simp at aa; subst aa; exact absurd ae (iR _ j)) (fun k c h => by cases h) (bt.refl _) (fun k c x j h => by cases h) rfl (fun bR aD aw ak => ?_);obtain ⟨aq, bg, bm, ⟨rfl, b0⟩, rfl, rfl⟩ := ak;refine ⟨fun k c h => (by cases h), ?_⟩;rw [Dj bh b0, tp];(refine aZ ?_)
 ((refine yt rfl (a6 rfl aK) (bt.refl _) rfl (Di bh b0) ?_))
 exact ⟨aq, bg, bm, ⟨rfl, b0⟩, rfl, rfl⟩
theorem Nw {s : bp.aS an} (gL : 4 ≤ s.ph) (ahC : s.ph ≤ 5) : fM E r rm 30 [] s (bf false) s := by
 intro cs R bh;obtain ⟨hv, fv, cv, b, S, lk, hS, cK, fI, rfl, rfl⟩ := id bh;have aE : (s.ph : Int) ≥ 4 := by omega
 refine de (f := 30) Tryz.func30 rfl (db rfl) (by exact ed rfl) ?_;(refine aZ ?_)
 ((refine eH rfl (a6 rfl aK) rfl (bt.refl _) bh.closed rfl eX ?_))
 exact ⟨_, rfl, rfl, bh⟩
end
section
variable {E : List (Int × bU)} {r rm : Nat}
abbrev mC (E : List (Int × bU)) (r rm : Nat) (s : bp.aS an) : Prop := hP (bu E r rm) (u1 (E.map Prod.snd) r) s
structure ie (E : List (Int × bU)) (r rm : Nat) : Prop where
 r : r ≤ 28
 near : gi (E.map Prod.snd) = true
 len : E.length ≤ 300
 pos : 1 ≤ rm
 room : rm ≤ 1024
theorem ie.ok (h : ie E r rm) : ke (bu E r rm) (u1 (E.map Prod.snd) r) := aee h.r h.near
theorem ie.n (E : List (Int × bU)) (r rm : Nat) : (bu E r rm).n = E.length := mo ..
theorem ie.vI (h : ie E r rm) {s : bp.aS an} (ab : jP (bu E r rm) s) (hl : kZ (bu E r rm) (u1 (E.map Prod.snd) r) s) : kc s.ch := by
 have hlen := hl.len;rw [ie.n] at hlen;refine ⟨by have := h.len; omega, fun c aj => ?_⟩;obtain ⟨i, hi⟩ := jh aj;have h1 := (K1 h.ok ab hl aj).1;have h2 : (bu E r rm).R = rm := rfl;have := h.room;exact ⟨(hl.ig i c hi).len, by omega⟩
theorem ie.hot (h : ie E r rm) {s : bp.aS an} (ab : jP (bu E r rm) s) : s.hot.length ≤ 1024 := by
 have h1 := ab.room;have h2 : (bu E r rm).R = rm := rfl;have := h.room;omega
theorem G1 {s : bp.aS an} (h : ie E r rm) (bh : mC E r rm s) : fM E r rm 30 [] s (bf (decide (s.ph < 4))) (eJ (bu E r rm) s) := by
 obtain ⟨ab, aA | h1 | h2 | h3 | aE | cZ⟩ := bh
 ·have e : eJ (bu E r rm) s = sJ (bu E r rm) s := by simp only [eJ, aA.ph]
  rw [e, aA.ph];have hi := aA.I;rw [ie.n] at hi;exact Zw aA.ph (ZB h.r h.near h.len hi aA.dirty aA.fnd (h.hot ab) aA.ph)
 ·have e : eJ (bu E r rm) s = ts (bu E r rm) s := by simp only [eJ, h1.ph]
  rw [e, h1.ph];have hi := h1.J;rw [ie.n] at hi;exact Zx h1.ph (ZD h.r h.near h.len h1.xx hi h1.dirty h1.fnd (h.hot ab) h1.ph)
 ·obtain ⟨c, p, q, g1, g2, g3, ap⟩ := h2.link;have g4 := bQ h2.T;generalize s.hot[s.T]'h2.T = x at g4
  have e : eJ (bu E r rm) s = rR (bu E r rm) s c p q (k2 (bu E r rm) p q x s.fnd) := by
   simp only [eJ, h2.ph, w4, g1, g2, g3, g4]
  rw [e, h2.ph];have aj := h2.laid.ig _ _ g1;have hd := K1 h.ok ab h2.laid (c5 g1);have ar : (bu E r rm).R = rm := rfl;have ahG := h.room;obtain ⟨V, D⟩ := c;have hp := ab.gv _ (aj.hot p (c5 g2));have ak := ab.gv _ (aj.hot q (c5 g3));have aR := h.hot ab
  have wq : (k2 (bu E r rm) p q x s.fnd) = (s.hot.take (s.T + 1)).filter (iI (bu E r rm) p q) := by
   rw [LC g4, ap];unfold k2
   split <;> simp [*]
  refine Zy h2.ph (ZE h.r (h.vI ab h2.laid) g1 g2 g3 g4 (fun d kH => ?_) hp ak h2.dirty aR ?_ ?_ h2.ph)
  ·have := hd.2 d kH; omega
  ·rw [ap];refine h8 (List.length_filter_le ..) ?_;rw [dS]; omega
  ·rw [wq];exact (ab.nd.sublist (List.take_sublist ..)).filter _
 ·have e : eJ (bu E r rm) s = rU (bu E r rm) s := by simp only [eJ, h3.ph]
  rw [e, h3.ph];have aj := h.vI ab h3.laid;refine Zz h3.ph (ZC h.r aj ?_ h3.xx h3.J (fun l hl => ?_) h3.fnd (h.hot ab) h3.ph)
  ·have := h3.J;cases Xm : s.ch with
   | nil => rw [Xm] at this; simp [aX] at this
   | cons => exact jk _
  ·obtain ⟨_, a1, a2⟩ := zf h.ok h3.laid hl;exact ⟨ab.gv _ a1, ab.gv _ a2⟩
 ·have e : eJ (bu E r rm) s = s := by simp only [eJ, aE.ph]
  rw [e, aE.ph];exact Nw (by rw [aE.ph]; decide) (by rw [aE.ph]; decide)
 ·have e : eJ (bu E r rm) s = s := by simp only [eJ, cZ.ph]
  rw [e, cZ.ph];exact Nw (by rw [cZ.ph]; decide) (by rw [cZ.ph]; decide)
end
section
variable {E : List (Int × bU)} {r rm : Nat}
theorem Nu {s : bp.aS an} : fM E r rm 26 [] s (aB s.ph) s := by
 intro cs R bh;obtain ⟨hv, fv, cv, b, S, lk, hS, cK, fI, rfl, rfl⟩ := id bh;refine de (f := 26) Tryz.func26 rfl (db rfl) (by exact ed rfl) ?_;(refine aZ ?_)
 ((refine eH rfl (a6 rfl aK) rfl (bt.refl _) bh.closed rfl eX ?_))
 exact ⟨_, rfl, rfl, bh⟩
def SS (E : List (Int × bU)) (r rm : Nat) (n : Int) (s : bp.aS an) (k : Nat) (R : aG) (aL : List (Nat × ah)) (bj : List (Nat × List AC)) : Prop :=
 ∃ (d : Nat) (s1 : bp.aS an) (hv fv cv : Value) (b : Nat) (S : eQ) (lk : AC), k = n.toNat - d ∧ d ≤ n.toNat ∧ mC E r rm s1 ∧ eE (bu E r rm) n.toNat s = ((eE (bu E r rm) k s1).1 + d, (eE (bu E r rm) k s1).2) ∧ dm E r rm s1 (ep E r rm s1.ph s1.I s1.J s1.T s1.dirty hv fv cv b lk) (dF b S hv fv cv s1.hot s1.fnd s1.ch) ∧ lk.aV = true ∧ R = dF b S hv fv cv s1.hot s1.fnd s1.ch ∧ aL = [(0, qU), (1, aB n), (5, aB d)] ∧ bj = [(1000, ep E r rm s1.ph s1.I s1.J s1.T s1.dirty hv fv cv b lk)]
theorem Ck {s : bp.aS an} (h : ie E r rm) (hs : mC E r rm s) {n : Int} (au : n ≤ 1000000000000) : fM E r rm 29 [aB n] s (aB (eE (bu E r rm) n.toNat s).1) (eE (bu E r rm) n.toNat s).2 := by
 intro cs R bh;obtain ⟨hv, fv, cv, b, S, lk, hS, cK, fI, rfl, rfl⟩ := id bh;refine de (f := 29) Tryz.func29 rfl (db rfl) (by exact ed rfl) ?_;(refine aZ ?_);refine j7 16 (SS E r rm n s) n.toNat (dF b S hv fv cv s.hot s.fnd s.ch) _ [(1000, ep E r rm s.ph s.I s.J s.T s.dirty hv fv cv b lk)] ⟨0, s, hv, fv, cv, b, S, lk, rfl, dA _, hs, rfl, bh, cK, rfl, rfl, rfl⟩ (bt.refl _) rfl ⟨rfl, rfl, rfl, trivial⟩ ⟨rfl, trivial⟩ ?_ ?_
 ·cases lk <;> first | rfl | cases cK
 clear bh hS cK fI;rintro k R aL bj ⟨d, s1, hv, fv, cv, b, S, lk, rfl, hd, s6, gh, bh, cK, rfl, rfl, rfl⟩ c3;clear c3
 by_cases a8 : d < n.toNat
 ·have q1 : (d : Int) < n := by omega
  have q0 : (0 : Int) ≤ (d : Int) := by omega
  obtain ⟨bd, qo⟩ : ∃ bd, n.toNat - d = bd + 1 := ⟨n.toNat - d - 1, by omega⟩;have aU := G1 h s6;have hinv := (xd h.ok s6)
  by_cases aE : s1.ph < 4
  ·rw [ck aE] at aU;(repeat first | refine cF ?_ | (with_reducible apply hX); rfl; (repeat first | refine iB ?_ | (with_reducible apply cc (c := true)); rfl; rfl; (exact ck (by omega))); (with_reducible apply gY));refine hY rfl rfl rfl rfl rfl rfl rfl rfl aU bh (fun aq aw b0 => ?_);obtain ⟨bP, cX, cS, bK, c7, gA, fA, gI, im, rfl, rfl⟩ := id b0;(refine aZ ?_);refine ⟨bd, _, _, [(1000, ep E r rm (eJ (bu E r rm) s1).ph (eJ (bu E r rm) s1).I (eJ (bu E r rm) s1).J (eJ (bu E r rm) s1).T (eJ (bu E r rm) s1).dirty bP cX cS bK gA)], by omega, ⟨d + 1, eJ (bu E r rm) s1, bP, cX, cS, bK, c7, gA, by omega, by omega, hinv.1, ?_, b0, gI, rfl, rfl, rfl⟩, bt.refl _, rfl, ⟨rfl, rfl, rfl, trivial⟩, ⟨rfl, trivial⟩, ?_⟩
   ·rw [gh, qo];have Bx : ¬ 4 ≤ s1.ph := by omega
    have e : eE (bu E r rm) (bd + 1) s1 = ((eE (bu E r rm) bd (eJ (bu E r rm) s1)).1 + 1, (eE (bu E r rm) bd (eJ (bu E r rm) s1)).2) := if_neg Bx;rw [e];exact Prod.ext (by show _ + 1 + d = _ + (d + 1); omega) rfl
   ·cases gA <;> first | rfl | cases gI
  ·have Bx : 4 ≤ s1.ph := by omega
   rw [cC aE, hinv.2.2 Bx] at aU;rw [aex Bx] at gh;have gh : eE (bu E r rm) n.toNat s = (d, s1) := by rw [gh]; exact Prod.ext (jj d) rfl
   (repeat first | refine cF ?_ | (with_reducible apply hX); rfl; (repeat first | refine iB ?_ | (with_reducible apply cc (c := true)); rfl; rfl; (exact ck (by omega))); (with_reducible apply gY));refine hY rfl rfl rfl rfl rfl rfl rfl rfl aU bh (fun aq aw b0 => ?_);obtain ⟨bP, cX, cS, bK, c7, gA, fA, gI, im, rfl, rfl⟩ := id b0;(refine aZ ?_)
   ((refine eH rfl (a6 rfl aK) rfl (bt.refl _) b0.closed rfl eX ?_))
   refine ⟨_, rfl, ?_, ?_⟩
   ·rw [gh]; rfl
   ·rw [gh]; exact b0
 ·have q1 : ¬ (d : Int) < n := by omega
  have hT : n.toNat - d = 0 := by omega
  rw [hT] at gh;have gh : eE (bu E r rm) n.toNat s = (d, s1) := by rw [gh]; exact Prod.ext (jj d) rfl
  (repeat first | refine cF ?_ | (with_reducible apply hX); rfl; (repeat first | refine iB ?_ | (with_reducible apply cc (c := false)); rfl; rfl; (exact cC (by omega))); (with_reducible apply gY))
  ((refine eH rfl (a6 rfl aK) rfl (bt.refl _) bh.closed rfl eX ?_))
  refine ⟨_, rfl, ?_, ?_⟩
  ·rw [gh]; rfl
  ·rw [gh]; exact bh
def uk (ch : List (List an × List Int)) : Int := ch.foldl (fun a c => max a (pc c.2)) 0
theorem Vq {ch : List (List an × List Int)} {k : Nat} {c : List an × List Int} (h : ch[k]? = some c) : uk (ch.take (k + 1)) = max (uk (ch.take k)) (pc c.2) := by
 have af := (bF.1 h).1
 have e : ch.take (k + 1) = ch.take k ++ [c] := by
  rw [nO af, (bF.1 h).2]
 unfold uk;rw [e, List.foldl_append]; rfl
def Sd (E : List (Int × bU)) (r rm : Nat) (s : bp.aS an) (hv fv cv : Value) (b : Nat) (S : eQ) (lk : AC) (n : Nat) (R : aG) (aL : List (Nat × ah)) (bj : List (Nat × List AC)) : Prop :=
 ∃ (k : Nat) (e1 d : Int), k ≤ s.ch.length ∧ n = s.ch.length - k ∧ e1 = k ∧ d = uk (s.ch.take k) ∧ R = dF b S hv fv cv s.hot s.fnd s.ch ∧ aL = [(3, aB d), (10, aM cv), (11, aB s.ch.length), (12, aB e1)] ∧ bj = [(1000, ep E r rm s.ph s.I s.J s.T s.dirty hv fv cv b lk)]
theorem Zl {s : bp.aS an} (aj : kc s.ch) : fM E r rm 14 [] s (aB (uk s.ch)) s := by
 intro cs R bh;obtain ⟨hv, fv, cv, b, S, lk, hS, cK, fI, rfl, rfl⟩ := id bh;refine de (f := 14) Tryz.func14 rfl (db rfl) (by exact ed rfl) ?_;(repeat first | refine cF ?_ | (with_reducible apply mP 3); (iterate 4 rfl); kernel_rfl; rfl);refine j7 22 (Sd E r rm s hv fv cv b S lk) s.ch.length (dF b S hv fv cv s.hot s.fnd s.ch) _ [(1000, ep E r rm s.ph s.I s.J s.T s.dirty hv fv cv b lk)] ⟨0, 0, 0, dA _, rfl, rfl, rfl, rfl, rfl, rfl⟩ (bt.refl _) rfl ⟨rfl, rfl, rfl, rfl, trivial⟩ ⟨rfl, trivial⟩ ?_ ?_
 ·cases lk <;> first | rfl | cases cK
 rintro n R aL bj ⟨k, e1, d, af, rfl, ko, lB, rfl, rfl, rfl⟩ c3;clear c3;have hlen := aj.1
 by_cases ak : k < s.ch.length
 ·obtain ⟨V, D, g1⟩ : ∃ V D, s.ch[k]? = some (V, D) := ⟨_, _, bQ ak⟩;obtain ⟨hG, gH⟩ := aj.2 _ (c5 g1);simp only at hG gH;obtain ⟨mz, si⟩ := A9 (ii := e1) ko g1;have q2 : e1 < (s.ch.length : Int) := by omega
  have bE : 0 ≤ e1 := by omega
  have c4 : 0 < s.ch.length := by omega
  have ax := Vq g1;rw [← lB, show max d (pc (V, D).2) = if pc D > d then pc D else d by show max d (pc D) = _; split <;> omega] at ax;have aU := Zk V D gH (by omega);(repeat first | refine cF ?_ | refine ia ?_ | (with_reducible apply jd 3); (iterate 4 rfl); (omega); (assumption); rfl; kernel_rfl; rfl | (with_reducible apply mQ 3); (iterate 3 rfl); (assumption); assumption; rfl; kernel_rfl; rfl);refine ⟨s.ch.length - (k + 1), dF b S hv fv cv s.hot s.fnd s.ch, _, [(1000, ep E r rm s.ph s.I s.J s.T s.dirty hv fv cv b lk)], by omega, ⟨k + 1, e1 + 1, _, by omega, rfl, by omega, ax.symm, rfl, rfl, rfl⟩, bt.refl _, rfl, ⟨rfl, rfl, rfl, rfl, trivial⟩, ⟨rfl, trivial⟩, ?_⟩;cases lk <;> first | rfl | cases cK
 ·have q2 : ¬ e1 < (s.ch.length : Int) := by omega
  have cW : s.ch.take k = s.ch := hq (by omega);rw [cW] at lB;(refine aZ ?_)
  ((refine eH rfl (a6 rfl aK) rfl (bt.refl _) bh.closed rfl eX ?_))
  exact ⟨_, rfl, by rw [← lB]; rfl, bh⟩
end
theorem Jw {n : Nat} {xs : List AC} (au : n ≤ 900000) (aj : xs.all AC.aV = true) (aa : xs.length = 2 * n) : oS ag 62 [cz 2 n xs] fun v q => ∃ v', v = aM v' ∧ q = ⟨36, 2, v', n, xs⟩ := by
 refine Ey rfl (fun v q h => by obtain ⟨v', rfl, _⟩ := h; rfl) ?_;refine de (f := 62) Tryz.func62 rfl (db rfl) (by exact nu) ?_;(refine aZ ?_);refine Q0 4 rfl ?_;intro b ab;cases b with
 | true =>
  have aA := ab rfl;subst aA;have h1 := j3 aa;subst h1;clear ab;refine nS 0 36 2 rfl ?_;(refine aZ ?_)
  ((refine yu rfl (a6 rfl aK) rfl rfl (jk _) ?_))
  exact ⟨.slice none 0 0, rfl, rfl⟩
 | false =>
  clear ab;(refine aZ ?_);refine MQ 0 rfl rfl rfl rfl rfl (fun v0 ol => ?_);(refine aZ ?_);refine qs 0 rfl rfl rfl rfl ?q1 ?q2 aj rfl (fun v1 hZ => ?_)
  case q1 => exact kL (by show 0 + n ≤ 1000000; omega)
  case q2 => show (0 + n) * 16 ≤ 140737488355328; omega
  (refine aZ ?_)
  ((refine yu rfl (a6 rfl aK) rfl rfl (jk _) ?_))
  exact ⟨v1, rfl, by rw [List.nil_append, jj]⟩
theorem Tf {n : Nat} {xs : List AC} (au : n ≤ 900000) (aj : xs.all AC.aV = true) (aa : xs.length = 2 * n) : oS ag 63 [cz 2 n xs] fun v q => ∃ v', v = aM v' ∧ q = ⟨34, 2, v', n, xs⟩ := by
 refine Ey rfl (fun v q h => by obtain ⟨v', rfl, _⟩ := h; rfl) ?_;refine de (f := 63) Tryz.func63 rfl (db rfl) (by exact nu) ?_;(refine aZ ?_);refine Q0 4 rfl ?_;intro b ab;cases b with
 | true =>
  have aA := ab rfl;subst aA;have h1 := j3 aa;subst h1;clear ab;refine nS 0 34 2 rfl ?_;(refine aZ ?_)
  ((refine yu rfl (a6 rfl aK) rfl rfl (jk _) ?_))
  exact ⟨.slice none 0 0, rfl, rfl⟩
 | false =>
  clear ab;(refine aZ ?_);refine MQ 0 rfl rfl rfl rfl rfl (fun v0 ol => ?_);(refine aZ ?_);refine qs 0 rfl rfl rfl rfl ?q1 ?q2 aj rfl (fun v1 hZ => ?_)
  case q1 => exact kL (by show 0 + n ≤ 1000000; omega)
  case q2 => show (0 + n) * 48 ≤ 140737488355328; omega
  (refine aZ ?_)
  ((refine yu rfl (a6 rfl aK) rfl rfl (jk _) ?_))
  exact ⟨v1, rfl, by rw [List.nil_append, jj]⟩
abbrev oM (k rm ph I J T : Int) (dirty : Bool) (hv fv cv : Value) : List AC := [.c (.int .i64 k), .c (.int .i64 rm), .c (.int .i64 ph), .c (.int .i64 I), .c (.int .i64 J), .c (.int .i64 T), .c (.bool dirty), .c hv, .c fv, .c cv]
abbrev r7 (hv fv cv : Value) (hot fnd : List an) (ch : List (List an × List Int)) : aG := bA (bA (bw 1 (iw hv hot)) 2 (iw fv fnd)) 3 (vH cv ch)
abbrev li (hv fv cv : Value) (hot fnd : List an) (ch : List (List an × List Int)) (R : aG) : aG := bA (bA (bA R 4 (iw hv hot)) 5 (iw fv fnd)) 6 (vH cv ch)
theorem aeb {hv fv cv : Value} {hot fnd : List an} {ch : List (List an × List Int)} {R : aG} : bA (li hv fv cv hot fnd ch R) 6 (vH cv ch) = li hv fv cv hot fnd ch R := by
 funext k
 by_cases hT : k = 6
 ·subst hT; rfl
 ·rw [b3 _ _ hT]
theorem EU (ch : List (List an × List Int)) : (ew ch).length = 2 * ch.length := by
 unfold ew; induction ch with
 | nil => rfl
 | cons c l bO => rw [List.flatMap_cons, cx, bO, jZ]; show 2 + _ = _; omega
theorem U6 (ch : List (List an × List Int)) : ∀ y ∈ ew ch, y.aV = true := fun y ai => by
 obtain ⟨c, _, h⟩ := List.mem_flatMap.1 ai;simp only [o8, fQ, r2, or_false] at h;rcases h with rfl | rfl <;> rfl
theorem Nl (l : List an) : ∀ y ∈ bL l, y.aV = true := cb.1 (uR l)
theorem U8 {ch : List (List an × List Int)} {i : Nat} {V : List an} {D : List Int} (h : ch[i]? = some (V, D)) : eu (ew ch) (2 * i) [.p (cl 2 V.length (bL V)), .p (cl 1 D.length (cu D))] = ew ch := by
 have hi := (bF.1 h).1
 have e : ch = ch.take i ++ (V, D) :: ch.drop (i + 1) := by
  conv => lhs; rw [← jG i ch, ml hi, (bF.1 h).2]
 have aN : ew ch = ew (ch.take i) ++ ([.p (cl 2 V.length (bL V)), .p (cl 1 D.length (cu D))] ++ ew (ch.drop (i + 1))) := by
  conv => lhs; rw [e]
  simp [ew, o8]
 have hl : (ew (ch.take i)).length = 2 * i := by rw [EU, dS]; congr 1; omega
 rw [aN, It hl];simp
def Sb (hv fv cv bP cX cS : Value) (k rm ph I J T : Int) (dirty : Bool) (hot fnd : List an) (ch : List (List an × List Int)) (n : Nat) (R : aG) (aL : List (Nat × ah)) (bj : List (Nat × List AC)) : Prop :=
 ∃ (i : Nat) (ii : Int), i ≤ ch.length ∧ n = ch.length - i ∧ ii = i ∧ R = li bP cX cS hot fnd ch (r7 hv fv cv hot fnd ch) ∧ aL = [(1, .w (.one (.own 1 0))), (2, .w (.one (.own 2 0))), (18, aM cS), (19, aB ch.length), (20, aB ii)] ∧ bj = [(1, oM k rm ph I J T dirty bP cX cS), (2, oM 0 0 0 0 0 0 false (.slice none 0 0) (.slice none 0 0) (.slice none 0 0))]
theorem ZA {k rm ph I J T : Int} {dirty : Bool} {hv fv cv : Value} {hot fnd : List an} {ch : List (List an × List Int)} (aR : hot.length ≤ 900000) (ap : fnd.length ≤ 900000) (aj : kc ch) :
  cY ag 34 [.w (.agg (oM k rm ph I J T dirty hv fv cv))] bW (r7 hv fv cv hot fnd ch) fun bR aD aw => ∃ bP cX cS, bR = .w (.agg (oM k rm ph I J T dirty bP cX cS)) ∧ aD = bW ∧ aw = li bP cX cS hot fnd ch (r7 hv fv cv hot fnd ch) := by
 have hlen := aj.1;have gV : ∀ aO : List AC, aO.length = (iw hv hot).aO.length → aO.all AC.aV = true → oS ag 62 [cz 2 hot.length aO] fun v q => ∃ v', v = aM v' ∧ q = ⟨36, 2, v', hot.length, aO⟩ := fun aO hl ai => Jw aR ai (by rw [hl, nI, Nat.mul_comm]);have lU : ∀ aO : List AC, aO.length = (iw fv fnd).aO.length → aO.all AC.aV = true → oS ag 62 [cz 2 fnd.length aO] fun v q => ∃ v', v = aM v' ∧ q = ⟨36, 2, v', fnd.length, aO⟩ := fun aO hl ai => Jw ap ai (by rw [hl, nI, Nat.mul_comm]);have tL : ∀ aO : List AC, aO.length = (vH cv ch).aO.length → aO.all AC.aV = true → oS ag 63 [cz 2 ch.length aO] fun v q => ∃ v', v = aM v' ∧ q = ⟨34, 2, v', ch.length, aO⟩ := fun aO hl ai => Tf (by omega) ai (by rw [hl, EU]);refine de (f := 34) Tryz.func34 rfl (db rfl) (by exact nu) ?_;(repeat first | (with_reducible apply ll (id := 1) [0,1,3,4,6,7,2,9,5,8,10,11,12,13,14] [7,10,13]); kernel_rfl; kernel_rfl; rfl | refine cF ?_);refine GA 1 4 (by decide) rfl rfl rfl rfl gV rfl (jk _) (Nl _) rfl (fun bP => ?_);(refine aZ ?_);refine GA 2 5 (by decide) rfl rfl rfl rfl lU rfl (jk _) (Nl _) rfl (fun cX => ?_)
 skip
 refine GA 3 6 (by decide) rfl rfl rfl rfl tL rfl (jk _) (U6 _) rfl (fun cS => ?_);(repeat first | refine cF ?_ | (with_reducible apply mP 6); (iterate 4 rfl); kernel_rfl; rfl);refine j7 33 (Sb hv fv cv bP cX cS k rm ph I J T dirty hot fnd ch) ch.length (li bP cX cS hot fnd ch (r7 hv fv cv hot fnd ch)) _ [(1, oM k rm ph I J T dirty bP cX cS), (2, oM 0 0 0 0 0 0 false (.slice none 0 0) (.slice none 0 0) (.slice none 0 0))] ⟨0, 0, dA _, rfl, rfl, rfl, rfl, rfl⟩ (bt.refl _) rfl ⟨rfl, rfl, rfl, rfl, rfl, trivial⟩ ⟨rfl, rfl, trivial⟩ rfl ?_;rintro n R aL bj ⟨i, ii, hi, rfl, hc, rfl, rfl, rfl⟩ c3;clear c3
 by_cases ak : i < ch.length
 ·obtain ⟨V, D, g1⟩ : ∃ V D, ch[i]? = some (V, D) := ⟨_, _, bQ ak⟩;obtain ⟨hG, gH⟩ := aj.2 _ (c5 g1);simp only at hG gH;obtain ⟨mz, si⟩ := A9 (ii := ii) hc g1;have aU := Zj V D gH (by omega);have q2 : ii < (ch.length : Int) := by omega
  have bE : 0 ≤ ii := by omega
  have c4 : 0 < ch.length := by omega
  have aF : ii.toNat * 2 = 2 * i := by omega
  have Gr : ii.toNat * 2 + 2 ≤ (ew ch).length := by rw [EU]; omega
  have b5 : eu (ew ch) (ii.toNat * 2) [.p (cl 2 V.length (bL V)), .p (cl 1 D.length (cu D))] = ew ch := by rw [aF]; exact U8 g1
  (repeat first | (with_reducible apply ll (id := 5) [0,1,2,3,4,5,6] [4000000]); kernel_rfl; kernel_rfl; rfl | refine cF ?_ | refine ia ?_ | (with_reducible apply jd 6); (iterate 4 rfl); (omega); (assumption); rfl; kernel_rfl; rfl | (with_reducible apply mQ 6); (iterate 3 rfl); (assumption); assumption; rfl; kernel_rfl; rfl);refine yR 6 rfl rfl rfl rfl c4 rfl rfl Gr rfl ?_;(refine aZ ?_);refine ⟨ch.length - (i + 1), li bP cX cS hot fnd ch (r7 hv fv cv hot fnd ch), _, [(1, oM k rm ph I J T dirty bP cX cS), (2, oM 0 0 0 0 0 0 false (.slice none 0 0) (.slice none 0 0) (.slice none 0 0))], by omega, ⟨i + 1, ii + 1, by omega, rfl, by omega, rfl, rfl, rfl⟩, fun k q af => ?_, rfl, ⟨rfl, rfl, rfl, rfl, rfl, trivial⟩, ⟨rfl, rfl, trivial⟩, rfl⟩
  have eB : bA (li bP cX cS hot fnd ch (r7 hv fv cv hot fnd ch)) 6 (⟨34, 2, cS, ch.length, eu (ew ch) (ii.toNat * 2) [.p (cl 2 V.length (bL V)), .p (cl 1 D.length (cu D))]⟩ : bz) = li bP cX cS hot fnd ch (r7 hv fv cv hot fnd ch) := by
   rw [b5]; exact aeb
  exact (congrFun eB k).trans af
 ·have q2 : ¬ ii < (ch.length : Int) := by omega
  (refine aZ ?_)
  ((refine yt rfl (cL rfl rfl rfl aK) (bt.refl _) rfl (fun j q h => ?_) ?_))
  ·match j with
   | 0 => cases h
   | 1 => exact ⟨_, rfl⟩
   | 2 => exact ⟨_, rfl⟩
   | 3 => exact ⟨_, rfl⟩
   | j + 4 => cases h
  ·exact ⟨bP, cX, cS, rfl, rfl, rfl⟩
theorem ad3 {b : Nat} {S : eQ} {hv fv cv : Value} {hot fnd : List an} {ch : List (List an × List Int)} : bt (r7 hv fv cv hot fnd ch) (dF b S hv fv cv hot fnd ch)
 | 0, _, h => by cases h
 | 1, _, h => h
 | 2, _, h => h
 | 3, _, h => h
 | k + 4, _, h => by cases h
theorem aed {b : Nat} {S : eQ} {hv fv cv bP cX cS : Value} {hot fnd : List an} {ch : List (List an × List Int)} : bJ (li bP cX cS hot fnd ch (r7 hv fv cv hot fnd ch)) (dF b S hv fv cv hot fnd ch) = li bP cX cS hot fnd ch (dF b S hv fv cv hot fnd ch) := by
 funext i
 match i with
 | 0 => rfl
 | 1 => rfl
 | 2 => rfl
 | 3 => rfl
 | 4 => rfl
 | 5 => rfl
 | 6 => rfl
 | i + 7 => rfl
theorem aec {hv fv cv : Value} {hot fnd : List an} {ch : List (List an × List Int)} {R : aG} : ∀ i r, R i = some r → ∃ aT, li hv fv cv hot fnd ch R i = some aT := fun i r h => by
 by_cases rk : i = 6
 ·subst rk; exact ⟨_, cf _ _ _⟩
 ·by_cases lx : i = 5
  ·subst lx; exact ⟨_, rfl⟩
  ·by_cases eB : i = 4
   ·subst eB; exact ⟨_, rfl⟩
   ·exact ⟨r, by unfold li; rw [b3 _ _ rk, b3 _ _ lx, b3 _ _ eB]; exact h⟩
section
variable {E : List (Int × bU)} {r rm : Nat}
theorem Zu {s : bp.aS an} (aR : s.hot.length ≤ 900000) (ap : s.fnd.length ≤ 900000) (aj : kc s.ch) {cs : List AC} {R : aG} (bh : dm E r rm s cs R) :
  cY ag 11 [qU] (cE 1000 cs) R (nY 1000 fun bR aq aw => ∃ hv fv cv, bR = .w (.agg (oM r rm s.ph s.I s.J s.T s.dirty hv fv cv)) ∧ aq = cs ∧ aw = li hv fv cv s.hot s.fnd s.ch R) := by
 obtain ⟨hv, fv, cv, b, S, lk, hS, cK, fI, rfl, rfl⟩ := id bh;have aU := ZA (k := (r : Int)) (rm := (rm : Int)) (ph := (s.ph : Int)) (I := (s.I : Int)) (J := (s.J : Int)) (T := (s.T : Int)) (dirty := s.dirty) (hv := hv) (fv := fv) (cv := cv) aR ap aj;refine de (f := 11) Tryz.func11 rfl (db rfl) (by exact ed rfl) ?_;(refine aZ ?_);refine MO (l := _) (args := [_]) rfl rfl rfl rfl aU ad3 rfl rfl ?_;rintro _ _ _ ⟨bP, cX, cS, rfl, rfl, rfl⟩;refine ⟨rfl, ?_⟩;rw [aed];(refine aZ ?_)
 ((refine eH rfl (cL rfl rfl rfl aK) rfl (bt.refl _) bh.closed rfl aec ?_))
 exact ⟨_, rfl, bP, cX, cS, rfl, rfl, rfl⟩
end
instance ahX : l0 ag 69 68 5 40 := ⟨by kernel_rfl⟩
abbrev IF : ah := aM (.func (.func 86) #[] #[])
theorem Ps {x y : Int} : aC ag 87 [aP x y] (bf (gj (x, y))) := by
 have cs : ((if y < x then y else x) ≥ -134217728 ∧ gj (x, y) = decide ((if y > x then y else x) < 134217728)) ∨ (¬ (if y < x then y else x) ≥ -134217728 ∧ gj (x, y) = false) := by
  by_cases h : (if y < x then y else x) ≥ -134217728
  ·refine .inl ⟨h, ?_⟩;rw [lN, rW, decide_eq_true_iff];show ((_ ≤ x ∧ x < _) ∧ _ ≤ y ∧ y < _) ↔ _
   split at h <;> split <;> omega
  ·refine .inr ⟨h, ?_⟩;cases au : gj (x, y) with
   | false => rfl
   | true =>
    obtain ⟨⟨a1, a2⟩, a3, a4⟩ : ((_ ≤ x ∧ x < _) ∧ _ ≤ y ∧ y < _) := rW.1 au
    split at h <;> omega
 rcases cs with ⟨h, e⟩ | ⟨h, e⟩
 all_goals
  rw [e];refine bi (f := 87) Tryz.func87 rfl rfl rfl rfl ?_;(repeat first | refine ec ?_ | (with_reducible apply cc (c := true)); rfl; rfl; (exact ck (by omega)) | (with_reducible apply cc (c := false)); rfl; rfl; (exact cC (by omega)))
  ((refine ba rfl (a6 rfl aK) ?_))
  exact ah.aQ.refl _
abbrev vE (x : Int × bU) : Bool := !(gj x.2.1 && gj x.2.2)
theorem acn {o a b c d : Int} : aC ag 86 [.w (.agg [.c (.int .i64 a), .c (.int .i64 b), .c (.int .i64 c), .c (.int .i64 d), .c (.int .i64 o)])] (bf (vE (o, (a, b), (c, d)))) := by
 have aU := Ps (x := a) (y := b);have bD := Ps (x := c) (y := d);unfold vE;simp only;cases h1 : gj (a, b) with
 | true =>
  rw [h1] at aU;rw [mq];refine bi (f := 86) Tryz.func86 rfl rfl rfl rfl ?_;(refine bZ ?_)
  ((refine ba rfl (a6 rfl aK) ?_))
  exact ah.aQ.refl _
 | false =>
  rw [h1] at aU;rw [Bool.false_and];refine bi (f := 86) Tryz.func86 rfl rfl rfl rfl ?_;(refine bZ ?_)
  ((refine ba rfl (a6 rfl aK) ?_))
  exact ah.aQ.refl _
def sO : List (Int × bU) → Int → Int
 | [], _ => -1
 | p :: l, i => if vE p = true then i else sO l (i + 1)
theorem LR (p : Int × bU) (l : List (Int × bU)) (i : Int) : sO (p :: l) i = if vE p = true then i else sO l (i + 1) := rfl
theorem LQ : ∀ (l : List (Int × bU)) (i : Int), 0 ≤ i → (decide (sO l i ≥ 0)) = !gi (l.map Prod.snd)
 | [], i, h => rfl
 | p :: l, i, h => by
  have bO := LQ l (i + 1) (by omega);have e : gi ((p :: l).map Prod.snd) = ((gj p.2.1 && gj p.2.2) && gi (l.map Prod.snd)) := rfl;rw [e, LR];unfold vE;cases hp : (gj p.2.1 && gj p.2.2) with
  | false => rw [if_pos (show (!false) = true from rfl), Bool.false_and]; exact ck h
  | true => rw [if_neg (by decide), mq]; exact bO
def Sn (E : List (Int × bU)) (k : Nat) (aL : List (Nat × ah)) (bj : List (Nat × List AC)) : Prop :=
 ∃ (i : Nat) (ii : Int), i ≤ E.length ∧ k = E.length - i ∧ ii = i ∧ sO E 0 = sO (E.drop i) ii ∧ bj = [] ∧ aL = [(0, jL E), (1, IF), (7, aB E.length), (8, aB ii)]
theorem acM {E : List (Int × bU)} (al : E.length ≤ 4611686018427387904) : aC ag 120 [jL E, IF] (aB (sO E 0)) := by
 refine bi (f := 120) Tryz.func120 rfl rfl rfl rfl ?_;(refine fl ?_);refine sD 19 (Sn E) E.length _ [] ⟨0, 0, dA _, rfl, rfl, rfl, rfl, rfl⟩ rfl ⟨rfl, rfl, rfl, rfl, trivial⟩ trivial rfl ?_;rintro n aL bj ⟨j, en, ae, rfl, og, gg, rfl, rfl⟩ c3;clear c3
 by_cases hp : j < E.length
 ·have p2 : en < (E.length : Int) := by omega
  have p3 : 0 ≤ en := by omega
  obtain ⟨o, a, b, c, d, g1⟩ : ∃ o a b c d, E[j]? = some (o, (a, b), (c, d)) := ⟨_, _, _, _, _, bQ hp⟩;have mz := vP og g1;have hd : E.drop j = (o, (a, b), (c, d)) :: E.drop (j + 1) := by rw [ml hp, (bF.1 g1).2]
  have kd := acn (o := o) (a := a) (b := b) (c := c) (d := d);rw [hd, LR] at gg;cases ap : vE (o, (a, b), (c, d)) with
  | true =>
   rw [ap] at gg kd;rw [if_pos rfl] at gg;rw [gg];(refine bZ ?_)
   ((refine ba rfl (a6 rfl aK) ?_))
   exact ah.aQ.refl _
  | false =>
   rw [ap] at gg kd;rw [if_neg (by simp)] at gg;(refine bZ ?_);exact ⟨E.length - (j + 1), _, [], by omega, ⟨j + 1, en + 1, hp, rfl, by omega, gg, rfl, rfl⟩, rfl, ⟨rfl, rfl, rfl, rfl, trivial⟩, trivial, rfl⟩
 ·have e : j = E.length := by omega
  subst e;rw [List.drop_length] at gg;rw [show sO [] en = -1 from rfl] at gg;rw [gg];(refine fl ?_)
  ((refine ba rfl (a6 rfl aK) ?_))
  exact ah.aQ.refl _
theorem acv {E : List (Int × bU)} (al : E.length ≤ 4611686018427387904) : aC ag 85 [jL E, IF] (bf (!gi (E.map Prod.snd))) := by
 have kd := acM al;rw [← LQ E 0 (by decide)];refine bi (f := 85) Tryz.func85 rfl rfl rfl rfl ?_;(refine bZ ?_)
 ((refine ba rfl (a6 rfl aK) ?_))
 exact ah.aQ.refl _
theorem acm {E : List (Int × bU)} (al : E.length ≤ 4611686018427387904) : aC ag 49 [jL E] (bf (gi (E.map Prod.snd))) := by
 have kd := acv al;have e : gi (E.map Prod.snd) = !(!gi (E.map Prod.snd)) := (Bool.not_not _).symm;rw [e];generalize (!gi (E.map Prod.snd)) = q at *;refine bi (f := 49) Tryz.func49 rfl rfl rfl rfl ?_;(refine bZ ?_)
 ((refine ba rfl (a6 rfl aK) ?_))
 exact ah.aQ.refl _
theorem acu {E : List (Int × bU)} (al : E.length ≤ 900000) : aC ag 51 [jL E] (jL E) := by
 refine bi (f := 51) Tryz.func51 rfl rfl rfl rfl ?_;(refine fl ?_);refine UE 4 rfl ?_;intro b ab;cases b with
 | true =>
  have aA := j3 (ab rfl);subst aA;clear ab;(refine fl ?_)
  ((refine ba rfl (a6 rfl aK) ?_))
  exact OC 5
 | false =>
  clear ab;have z0 : 0 + E.length = E.length := jj _;(repeat first | (with_reducible apply Ub); rfl; rfl | (with_reducible apply Ty); (iterate 3 rfl); (exact kL (by omega)); (omega); (assumption); (rfl); rfl | refine ec ?_)
  ((refine ba rfl (a6 rfl aK) ?_))
  exact ah.aQ.refl _
section
variable {P : Program} {f : FuncId} {args : List ah} {cs : List AC} {R0 : aG} {Q : ah → List AC → aG → Prop}
theorem cY.at (k : Nat) (h : cY P f (qU :: args) (cE 1000 cs) R0 (nY 1000 Q)) (dW : args.all ah.aV = true) (aj : cs.all AC.aV = true) (ak : ∀ bR ds aw, Q bR ds aw → bR.aV = true ∧ ds.all AC.aV = true) : cY P f (.w (.one (.own k 0)) :: args) (cE k cs) R0 (nY k Q) := by
 have h1 := h.aW (mv 1000 k) (bS := fun j => j) (ib := fun j => j) (fun _ => rfl) (fun _ => rfl)
 have aF : (ah.w (.one (.own 1000 0)) :: args).map (ah.aW (swp 1000 k)) = .w (.one (.own k 0)) :: args := by
  have aN : args.map (ah.aW (swp 1000 k)) = args := by
   conv => rhs; rw [← List.map_id args]
   exact oI fun x aa => tE (cb.1 dW x aa)
  rw [kQ, aN];show ah.w (.one (.own (swp 1000 k 1000) 0)) :: args = _;rw [show swp 1000 k 1000 = k by unfold swp; simp]
 rw [aF, uT aj] at h1;refine ⟨fun U ad W vs cH cB cI => (h1.call U ad W vs cH cB cI).mono ?_⟩;rintro cW bb ⟨v, r, aD, aw, aY, cq, q0, ⟨b9, m1, bg, ⟨ds, rfl, s5⟩, rfl, rfl, rfl⟩, lM⟩;obtain ⟨c1, c2⟩ := ak _ _ _ s5;rw [uT c2, tE c1] at lM;exact ⟨v, b9, cE k ds, bg, aY, cq, q0, ⟨ds, rfl, s5⟩, lM⟩
end
def c6 (k : Int) : Nat := (if k < 0 then 0 else if 28 < k then 28 else k).toNat
def dG (n : Int) : Nat := (lj n).toNat
theorem H9 (n : Int) : ((dG n : Nat) : Int) = lj n := by unfold dG lj; (repeat split) <;> omega
theorem QB (n : Int) : 1 ≤ dG n ∧ dG n ≤ 1024 := by unfold dG lj; (repeat split) <;> omega
theorem ad4 (k : Int) : ((c6 k : Nat) : Int) = if 28 < (if 0 > k then 0 else k) then 28 else (if 0 > k then 0 else k) := by unfold c6; (repeat split) <;> omega
theorem ad5 (k : Int) : c6 k ≤ 28 := by unfold c6; (repeat split) <;> omega
theorem H7 {E : List (Int × bU)} {k n : Int} (h : gi (E.map Prod.snd) = true) (hl : E.length ≤ 300) : ie E (c6 k) (dG n) := ⟨ad5 k, h, hl, (QB n).1, (QB n).2⟩
abbrev jD : Value := .slice none 0 0
theorem OB {b : Nat} {S : eQ} {q : bz} : dF b S jD jD jD [] [] [] = bA (bA (bA (bA (bA fO 1 ⟨36, 2, jD, 0, []⟩) 2 ⟨36, 2, jD, 0, []⟩) 3 ⟨34, 2, jD, 0, []⟩) 0 q) 0 (iS (dO b) S) := by
 funext i
 match i with
 | 0 => rfl
 | 1 => rfl
 | 2 => rfl
 | 3 => rfl
 | i + 4 => rfl
theorem Zq {E : List (Int × bU)} {k n : Int} (hl : E.length ≤ 300) (h : gi (E.map Prod.snd) = true) : cY ag 28 [jL E, aB k, aB n] bW fO fun bR aD aw => ∃ cs, bR = .w (.one (.own 24 0)) ∧ aD = cE 24 cs ∧ dm E (c6 k) (dG n) (fj (bu E (c6 k) (dG n))) cs aw := by
 have aU := acm (E := E) (by omega);rw [h] at aU;have bD := Zp n;have eg := acu (E := E) (by omega);have hT := ad4 k
 by_cases aA : E = []
 ·subst aA;refine de (f := 28) Tryz.func28 rfl (db rfl) (by exact nu) ?_;refine nS 1 36 2 rfl ?_;refine nS 2 36 2 rfl ?_;refine nS 3 34 2 rfl ?_;(refine mx ?_);refine MU 0 rfl rfl rfl rfl bD rfl rfl (fun p S jx => ?_);obtain ⟨b, rfl, hS⟩ := jx;rw [← H9 n] at hS;have kb := Nv _ _ _ _ hS (by decide);(refine mx ?_);refine yS 0 rfl rfl rfl rfl kb rfl rfl rfl (fun v c7 h => ?_);obtain ⟨rfl, fA⟩ := h;(refine aZ ?_);have my := cY.at 24 (G2 (E := []) (k := (c6 k : Int)) (rm := (dG n : Int)) (ph := 0) (I := 0) (J := 0) (T := 0) (dirty := false) (hv := jD) (fv := jD) (cv := jD) (b := b) (lk := .c jD) rfl 4) rfl rfl (fun bR ds aw h => by obtain ⟨rfl, rfl, _⟩ := h; exact ⟨rfl, rfl⟩);rw [← hT];refine jV 24 rfl rfl rfl rfl my rfl rfl rfl rfl rfl ?_;(refine aZ ?_)
  ((refine BR 24 rfl (a6 rfl aK) rfl (bt.of_eq OB) rfl rfl ?_))
  exact ⟨_, rfl, rfl, jD, jD, jD, b, c7, .c jD, fA, rfl, fun h => (by cases h), rfl, rfl⟩
 ·have fp : ¬ (E.length : Int) = 0 := fun aR => aA (j3 (by omega));refine de (f := 28) Tryz.func28 rfl (db rfl) (by exact nu) ?_;refine nS 1 36 2 rfl ?_;refine nS 2 36 2 rfl ?_;refine nS 3 34 2 rfl ?_;(refine mx ?_);refine MU 0 rfl rfl rfl rfl bD rfl rfl (fun p S jx => ?_);obtain ⟨b, rfl, hS⟩ := jx;rw [← H9 n] at hS;have kb := Nv _ _ _ _ hS (by decide);(refine mx ?_);refine yS 0 rfl rfl rfl rfl kb rfl rfl rfl (fun v c7 h => ?_);obtain ⟨rfl, fA⟩ := h;(refine aZ ?_);rw [← hT]
  ((refine BR 24 rfl (a6 rfl aK) rfl (bt.of_eq OB) rfl rfl ?_))
  refine ⟨_, rfl, rfl, jD, jD, jD, b, c7, .c jD, fA, rfl, ?_, ?_, rfl⟩
  ·unfold fj;rw [if_neg (by rw [ie.n]; omega)];intro h; cases h
  ·unfold fj;rw [if_neg (by rw [ie.n]; omega)]; rfl
end Go.Proofs.YtbcecodakfejaaaGreat
