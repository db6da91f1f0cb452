/-
  My own texts, without what this claim does not need. My own text.
-/
import Derived.Test.YtbcecodakfejaaaGreatSChainsK13
set_option maxRecDepth 100000
set_option maxHeartbeats 64000000
set_option linter.unusedVariables false
set_option linter.unusedSimpArgs false
set_option linter.unusedSectionVars false
open Go.Proofs.Tryz renaming prog → ag
namespace Go.Proofs.YtbcecodakfejaaaGreat
open Go.RowKit
open bq
section
variable {E : List (Int × bT)} {r rm : Nat}
theorem Ry {b : Nat} {S : e0} {hv fv cv v : Value} {hot fnd : List aj} {ch l : List (List aj × List Int)} : bG (dT b S hv fv cv hot fnd ch) 3 (wh v l) = dT b S hv fv v hot fnd l := by
  funext i
  match i with
  | 0 => rfl
  | 1 => rfl
  | 2 => rfl
  | 3 => rfl
  | i + 4 => rfl
theorem Ly {ch : List (List aj × List Int)} {i : Nat} {ii : Int} {V : List aj} {D : List Int} (hi : ii = i) (h : i < ch.length) : eD (eC ch) (ii.toNat * 2) [.p (bX 2 V.length (bD V)), .p (bX 1 D.length (ck D))] = eC (ch.set i (V, D)) := by
  subst hi;rw [kH];have e : ch = ch.take i ++ ch[i] :: ch.drop (i + 1) := by rw [← mG h, ju]
  have ak : (eC (ch.take i)).length = i * 2 := by
    have := BO (f := pz) (z := 2) (fun _ => rfl) (ch.take i);unfold eC;rw [this, dX, o7 (by omega)]
  have aF : eC ch = eC (ch.take i) ++ (pz ch[i] ++ eC (ch.drop (i + 1))) := (congrArg eC e).trans (by unfold eC; rw [List.flatMap_append, List.flatMap_cons]);rw [aF, Jc ak, List.set_eq_take_append_cons_drop, if_pos h];simp [eC, pz]
theorem Xf {p q : aj} {bg : List aj} (ax : bg.Nodup) : iH (dN (decide ((2 : Int) ^ r * q.1 < 2 ^ r * p.1)) (decide ((2 : Int) ^ r * q.2 < 2 ^ r * p.2))) bg = fJ p q bg := by
  rw [BM, BM];exact agy ax (by rw [List.filter_eq_self.2 (fun _ _ => rfl)])
theorem aaB {s : bq.aU aj} {V : List aj} {D : List Int} {p q x : aj} (ap : r ≤ 28) (al : km s.ch) (g1 : s.ch[s.I]? = some (V, D)) (g2 : V[s.J]? = some p) (g3 : V[s.J + 1]? = some q) (g4 : s.hot[s.T]? = some x) (eG : ∀ d ∈ D, 1 ≤ d ∧ d ≤ 1048576)
    (hp : dd r p.1 p.2 = true) (an : dd r q.1 q.2 = true) (hd : s.dirty = false) (aR : s.hot.length ≤ 1024) (wO : s.fnd.length ≤ 1024) (wP : (li (bp E r rm) p q x s.fnd).Nodup) (hk : s.ph = 2) : ga E r rm 56 [] s lG (sa (bp E r rm) s (V, D) p q (li (bp E r rm) p q x s.fnd)) := by
  obtain ⟨p1, p2⟩ := p;obtain ⟨q1, q2⟩ := q;obtain ⟨cA, cR⟩ := x;obtain ⟨gd, fT⟩ := al.2 _ (cV g1);simp only at gd fT;have bj := (bA.1 g1).1;have kt := (bA.1 g3).1;have cB := (bA.1 g4).1;have aw : fQ (r : Int) r := ⟨ap, .inr (.inr rfl)⟩;have aW := Qv (D := D) g2 g3 (by omega);have bH := ad0 (E := E.map Prod.snd) (R := rm) ap (p := (p1, p2)) (q := (q1, q2)) (x := (cA, cR)) hp an;have eF := DD (sf aw hp) (sf aw an);simp only at bH eF;have la := acK (a1 := 2 ^ r * p1) (a2 := 2 ^ r * p2) (b1 := 2 ^ r * q1) (b2 := 2 ^ r * q2);obtain ⟨mR, sJ⟩ := Bq (ii := (s.I : Int)) rfl g1;have Ti := ZR (ii := (s.T : Int)) rfl g4;have i0 : (0 : Int) ≤ (s.I : Int) := by omega
  have i1 : (s.I : Int) < (s.ch.length : Int) := by omega
  have i2 : 0 < s.ch.length := by omega
  have t0 : (0 : Int) ≤ (s.T : Int) := by omega
  have t1 : (s.T : Int) < (s.hot.length : Int) := by omega
  have t2 : 0 < s.hot.length := by omega
  have XQ : (s.J : Int) ≤ 1100 := by omega
  have cC := al.1
 
  have split : ∀ bg : List aj, bg = li (bp E r rm) (p1, p2) (q1, q2) (cA, cR) s.fnd → bg ≠ [] → bg.length ≤ 1100 → aH ag 100 [gq bg, vH (decide ((2 : Int) ^ r * q1 < 2 ^ r * p1)) (decide ((2 : Int) ^ r * q2 < 2 ^ r * p2))] (gq (fJ (p1, p2) (q1, q2) bg)) ∧
      aH ag 99 [jz V D, aE s.J, gq (fJ (p1, p2) (q1, q2) bg)] (.cn [.agg [.p (bX 2 (bq.db V s.J (fJ (p1, p2) (q1, q2) bg)).length (bD (bq.db V s.J (fJ (p1, p2) (q1, q2) bg)))), .p (bX 1 (et D s.J bg.length).length (ck (et D s.J bg.length)))], .one (.c (.bool true))]) := by
    intro bg YH bU YD;have ax : bg.Nodup := by rw [YH]; exact wP
    have hlen : (fJ (p1, p2) (q1, q2) bg).length = bg.length := (Ao _ _ bg).length_eq;refine ⟨?_, ?_⟩
    · have := adm (fx := decide ((2 : Int) ^ r * q1 < 2 ^ r * p1)) (fy := decide ((2 : Int) ^ r * q2 < 2 ^ r * p2)) 1100 bg YD (by omega)
      rw [Xf (p := (p1, p2)) (q := (q1, q2)) ax] at this;exact this
    · have := aaq V D s.J (fJ (p1, p2) (q1, q2) bg) gd fT (by omega) (by omega) eG
      have G2 : (fJ (p1, p2) (q1, q2) bg).isEmpty = false := by
        cases h : fJ (p1, p2) (q1, q2) bg with
        | nil => rw [h] at hlen; exact absurd (jv hlen.symm) bU
        | cons a l => rfl
      rw [G2, hlen] at this;exact this
  rintro cs R jF;obtain ⟨hv, fv, cv, b, S, lk, hS, cS, fV, rfl, rfl⟩ := id jF;have dz : ∀ (I J T : Int) (fv : Value), (ez E r rm s.ph I J T s.dirty hv fv cv b lk).all AC.aY = true := fun I J T fv => by simp only [jV, l9, cS]; rfl
  unfold sa;simp only [show (bp E r rm).gN = fJ from rfl];cases ix : jo (bp E r rm) (p1, p2) (q1, q2) (cA, cR) with
  | true =>
    rw [ix] at bH;have FL : li (bp E r rm) (p1, p2) (q1, q2) (cA, cR) s.fnd = s.fnd ++ [(cA, cR)] := by unfold li; rw [ix]; rfl
    rw [FL] at split ⊢;have YE : (s.fnd ++ [(cA, cR)]).length ≤ 1100 := by rw [cF, List.length_singleton]; omega
    have bU : s.fnd ++ [(cA, cR)] ≠ [] := by simp
    obtain ⟨nI, AK⟩ := split _ rfl bU YE;clear split wP ix;refine dt (f := 56) Tryz.func56 rfl (dl rfl) (by exact eo rfl) ?_;(repeat first | (with_reducible apply cQ (id := 1) [10,0,1,2,3,4,5,6,7,8,9,11]); kernel_rfl; kernel_rfl; rfl | (with_reducible apply cQ (id := 2) [6,0,1,2,3,4,5,7]); kernel_rfl; kernel_rfl; rfl | (with_reducible apply cQ (id := 3) [10,0,1,2,3,4,5,6,7,8,9,11]); kernel_rfl; kernel_rfl; rfl | (with_reducible apply cQ (id := 4) [0,1,2,3,4,5,6]); kernel_rfl; kernel_rfl; rfl | (with_reducible apply k7 (id := 5) [0,1,2,3,4,5,6,7,8,9,10] [3000048]); kernel_rfl; kernel_rfl; rfl | refine cu ?_ | refine iJ ?_ | (with_reducible apply ib 1); (iterate 4 rfl); (omega); (assumption); rfl; kernel_rfl; rfl | (with_reducible apply ib 3); (iterate 4 rfl); (omega); (assumption); rfl; kernel_rfl; rfl | (with_reducible apply ls 1); (iterate 3 rfl); (assumption); assumption; rfl; kernel_rfl; rfl | (with_reducible apply ls 3); (iterate 3 rfl); (assumption); assumption; rfl; kernel_rfl; rfl);refine n2 2 rfl rfl rfl rfl ?q1 ?q2 rfl rfl (fun v1 iW => ?_)
    case q1 => exact js (by show s.fnd.length + 1 ≤ 1000000; omega)
    case q2 => show (s.fnd.length + 1) * 16 ≤ 140737488355328; omega
    (repeat first | (with_reducible apply cQ (id := 7) [0,1,2,3,4,5,6,7,8,9]); kernel_rfl; kernel_rfl; rfl | refine cu ?_ | (with_reducible apply lr 1); (iterate 4 rfl); kernel_rfl; rfl);refine D5 (dT b S hv v1 cv s.hot (s.fnd ++ [(cA, cR)]) s.ch) (bz.of_eq afc.symm) ?_
    by_cases te : s.T + 1 < s.hot.length
    · rw [if_pos te]
      have yM : (s.T : Int) + 1 < (s.hot.length : Int) := by omega
      have fC : dy E r rm { s with fnd := s.fnd ++ [(cA, cR)], T := s.T + 1 } (ez E r rm s.ph s.I s.J ((s.T : Int) + 1) s.dirty hv v1 cv b lk) (dT b S hv v1 cv s.hot (s.fnd ++ [(cA, cR)]) s.ch) := ⟨hv, v1, cv, b, S, lk, hS, cS, fV, rfl, rfl⟩;(refine ba ?_)
      ((refine eN rfl aL rfl (bz.refl _) fC.closed rfl e8 ?_))
      exact ⟨_, rfl, rfl, fC⟩
    · rw [if_neg te, if_neg bU]
      have yM : ¬ (s.T : Int) + 1 < (s.hot.length : Int) := by omega
      have G2 : ¬ ((s.fnd ++ [(cA, cR)]).length : Int) = 0 := fun h => bU (jv (by omega));refine IY 2 1000 9 (iD v1 (s.fnd ++ [(cA, cR)])) rfl rfl rfl ?_;refine mb 2 36 2 rfl ?_
      refine D5 (dT b S hv (.slice none 0 0) cv s.hot [] s.ch) (fun k q af => by
        match k with
        | 0 => exact af
        | 1 => exact af
        | 2 => exact af
        | 3 => exact af
        | k + 4 => cases af) ?_
      have fC : dy E r rm { s with T := 0, fnd := [], ch := s.ch.set s.I (bq.db V s.J (fJ (p1, p2) (q1, q2) (s.fnd ++ [(cA, cR)])), et D s.J (s.fnd ++ [(cA, cR)]).length) } (ez E r rm s.ph s.I s.J 0 s.dirty hv (.slice none 0 0) cv b lk) (dT b S hv (.slice none 0 0) cv s.hot [] (s.ch.set s.I (bq.db V s.J (fJ (p1, p2) (q1, q2) (s.fnd ++ [(cA, cR)])), et D s.J (s.fnd ++ [(cA, cR)]).length))) := ⟨hv, _, cv, b, S, lk, hS, cS, (fun h => absurd (hk.symm.trans (show s.ph = 3 from h)) (by decide)), rfl, rfl⟩
      have ni : bG (dT b S hv (.slice none 0 0) cv s.hot [] s.ch) 3 ⟨34, 2, cv, s.ch.length, eD (eC s.ch) ((s.I : Int).toNat * 2) [.p (bX 2 (bq.db V s.J (fJ (p1, p2) (q1, q2) (s.fnd ++ [(cA, cR)]))).length (bD (bq.db V s.J (fJ (p1, p2) (q1, q2) (s.fnd ++ [(cA, cR)]))))), .p (bX 1 (et D s.J (s.fnd ++ [(cA, cR)]).length).length (ck (et D s.J (s.fnd ++ [(cA, cR)]).length)))]⟩ = dT b S hv (.slice none 0 0) cv s.hot [] (s.ch.set s.I (bq.db V s.J (fJ (p1, p2) (q1, q2) (s.fnd ++ [(cA, cR)])), et D s.J (s.fnd ++ [(cA, cR)]).length)) := by
        rw [Ly rfl bj, show s.ch.length = (s.ch.set s.I (bq.db V s.J (fJ (p1, p2) (q1, q2) (s.fnd ++ [(cA, cR)])), et D s.J (s.fnd ++ [(cA, cR)]).length)).length from (List.length_set ..).symm];exact Ry
      generalize Hn : bq.db V s.J (fJ (p1, p2) (q1, q2) (s.fnd ++ [(cA, cR)])) = Kb at *;generalize Ho : et D s.J (s.fnd ++ [(cA, cR)]).length = vM at *;generalize NZ : fJ (p1, p2) (q1, q2) (s.fnd ++ [(cA, cR)]) = L' at *;(repeat first | (with_reducible apply k7 (id := 12) [0,1,2,3,4,5,6,7,8,9,10,11,12,13,14,15,16,17,18,19,20,21,22,23,24,25,26,27,28,29,30,31,32] [4000000]); kernel_rfl; kernel_rfl; rfl | refine cu ?_ | refine iJ ?_ | (with_reducible apply ib 3); (iterate 4 rfl); (omega); (assumption); rfl; kernel_rfl; rfl);refine ze 3 rfl rfl rfl rfl i2 rfl rfl mR.1 rfl ?_;(refine ba ?_)
      ((refine eN rfl aL rfl (bz.of_eq ni.symm) fC.closed rfl e8 ?_))
      exact ⟨_, rfl, rfl, fC⟩
  | false =>
    rw [ix] at bH;have FL : li (bp E r rm) (p1, p2) (q1, q2) (cA, cR) s.fnd = s.fnd := by unfold li; rw [ix]; rfl
    rw [FL] at split ⊢;have aiw := cB
    by_cases bU : s.fnd = []
    · clear split wP ix
      have cq : ({ s with fnd := s.fnd } : bq.aU aj) = s := rfl;have az : (s.fnd.length : Int) = 0 := by rw [bU]; rfl
      have ef := OD (E := E) (r := r) (rm := rm) (s := { s with T := 0, fnd := [], J := s.J + 1 }) hd rfl al bj (by show s.J + 1 ≤ 1100; omega) hk;have lj : dy E r rm { s with T := 0, fnd := [], J := s.J + 1 } (ez E r rm s.ph s.I ((s.J : Int) + 1) 0 s.dirty hv fv cv b lk) (dT b S hv fv cv s.hot s.fnd s.ch) := ⟨hv, fv, cv, b, S, lk, hS, cS, fV, rfl, by rw [bU]⟩
      by_cases te : s.T + 1 < s.hot.length
      · rw [if_pos te]
        have yM : (s.T : Int) + 1 < (s.hot.length : Int) := by omega
        have fC : dy E r rm { s with fnd := s.fnd, T := s.T + 1 } (ez E r rm s.ph s.I s.J ((s.T : Int) + 1) s.dirty hv fv cv b lk) (dT b S hv fv cv s.hot s.fnd s.ch) := ⟨hv, fv, cv, b, S, lk, hS, cS, fV, rfl, rfl⟩;refine dt (f := 56) Tryz.func56 rfl (dl rfl) (by exact eo rfl) ?_;(repeat first | (with_reducible apply cQ (id := 1) [10,0,1,2,3,4,5,6,7,8,9,11]); kernel_rfl; kernel_rfl; rfl | (with_reducible apply cQ (id := 2) [6,0,1,2,3,4,5,7]); kernel_rfl; kernel_rfl; rfl | (with_reducible apply cQ (id := 3) [10,0,1,2,3,4,5,6,7,8,9,11]); kernel_rfl; kernel_rfl; rfl | (with_reducible apply cQ (id := 4) [0,1,2,3,4,5,6]); kernel_rfl; kernel_rfl; rfl | (with_reducible apply cQ (id := 7) [0,1,2,3,4,5,6,7,8,9]); kernel_rfl; kernel_rfl; rfl | refine cu ?_ | refine iJ ?_ | (with_reducible apply lr 1); (iterate 4 rfl); kernel_rfl; rfl | (with_reducible apply ib 1); (iterate 4 rfl); (omega); (assumption); rfl; kernel_rfl; rfl | (with_reducible apply ib 3); (iterate 4 rfl); (omega); (assumption); rfl; kernel_rfl; rfl | (with_reducible apply ls 1); (iterate 3 rfl); (assumption); assumption; rfl; kernel_rfl; rfl | (with_reducible apply ls 3); (iterate 3 rfl); (assumption); assumption; rfl; kernel_rfl; rfl)
        ((refine eN rfl aL rfl (bz.refl _) fC.closed rfl e8 ?_))
        exact ⟨_, rfl, rfl, fC⟩
      · rw [if_neg te, if_pos bU]
        have yM : ¬ (s.T : Int) + 1 < (s.hot.length : Int) := by omega
        refine dt (f := 56) Tryz.func56 rfl (dl rfl) (by exact eo rfl) ?_;(repeat first | (with_reducible apply cQ (id := 1) [10,0,1,2,3,4,5,6,7,8,9,11]); kernel_rfl; kernel_rfl; rfl | (with_reducible apply cQ (id := 2) [6,0,1,2,3,4,5,7]); kernel_rfl; kernel_rfl; rfl | (with_reducible apply cQ (id := 3) [10,0,1,2,3,4,5,6,7,8,9,11]); kernel_rfl; kernel_rfl; rfl | (with_reducible apply cQ (id := 4) [0,1,2,3,4,5,6]); kernel_rfl; kernel_rfl; rfl | (with_reducible apply cQ (id := 7) [0,1,2,3,4,5,6,7,8,9]); kernel_rfl; kernel_rfl; rfl | refine cu ?_ | refine iJ ?_ | (with_reducible apply lr 1); (iterate 4 rfl); kernel_rfl; rfl | (with_reducible apply lr 2); (iterate 4 rfl); kernel_rfl; rfl | (with_reducible apply ib 1); (iterate 4 rfl); (omega); (assumption); rfl; kernel_rfl; rfl | (with_reducible apply ib 3); (iterate 4 rfl); (omega); (assumption); rfl; kernel_rfl; rfl | (with_reducible apply ls 1); (iterate 3 rfl); (assumption); assumption; rfl; kernel_rfl; rfl | (with_reducible apply ls 3); (iterate 3 rfl); (assumption); assumption; rfl; kernel_rfl; rfl);refine ic rfl rfl rfl rfl rfl rfl rfl rfl ef lj (fun ar ay Gk => ?_);(refine ba ?_);obtain ⟨CC, BS, Bw, cY, x5, C3, B4, Cp, Co, rfl, rfl⟩ := id Gk
        ((refine eN rfl aL rfl (bz.refl _) Gk.closed rfl e8 ?_))
        exact ⟨_, rfl, rfl, Gk⟩
    obtain ⟨nI, AK⟩ := split _ rfl bU (by omega);clear split wP ix;refine dt (f := 56) Tryz.func56 rfl (dl rfl) (by exact eo rfl) ?_;(repeat first | (with_reducible apply cQ (id := 1) [10,0,1,2,3,4,5,6,7,8,9,11]); kernel_rfl; kernel_rfl; rfl | (with_reducible apply cQ (id := 2) [6,0,1,2,3,4,5,7]); kernel_rfl; kernel_rfl; rfl | (with_reducible apply cQ (id := 3) [10,0,1,2,3,4,5,6,7,8,9,11]); kernel_rfl; kernel_rfl; rfl | (with_reducible apply cQ (id := 4) [0,1,2,3,4,5,6]); kernel_rfl; kernel_rfl; rfl | (with_reducible apply cQ (id := 7) [0,1,2,3,4,5,6,7,8,9]); kernel_rfl; kernel_rfl; rfl | refine cu ?_ | refine iJ ?_ | (with_reducible apply lr 1); (iterate 4 rfl); kernel_rfl; rfl | (with_reducible apply ib 1); (iterate 4 rfl); (omega); (assumption); rfl; kernel_rfl; rfl | (with_reducible apply ib 3); (iterate 4 rfl); (omega); (assumption); rfl; kernel_rfl; rfl | (with_reducible apply ls 1); (iterate 3 rfl); (assumption); assumption; rfl; kernel_rfl; rfl | (with_reducible apply ls 3); (iterate 3 rfl); (assumption); assumption; rfl; kernel_rfl; rfl)
    by_cases te : s.T + 1 < s.hot.length
    · rw [if_pos te]
      have yM : (s.T : Int) + 1 < (s.hot.length : Int) := by omega
      have fC : dy E r rm { s with fnd := s.fnd, T := s.T + 1 } (ez E r rm s.ph s.I s.J ((s.T : Int) + 1) s.dirty hv fv cv b lk) (dT b S hv fv cv s.hot (s.fnd) s.ch) := ⟨hv, fv, cv, b, S, lk, hS, cS, fV, rfl, rfl⟩;(refine ba ?_)
      ((refine eN rfl aL rfl (bz.refl _) fC.closed rfl e8 ?_))
      exact ⟨_, rfl, rfl, fC⟩
    · rw [if_neg te, if_neg bU]
      have yM : ¬ (s.T : Int) + 1 < (s.hot.length : Int) := by omega
      have G2 : ¬ ((s.fnd).length : Int) = 0 := fun h => bU (jv (by omega));refine IY 2 1000 9 (iD fv (s.fnd)) rfl rfl rfl ?_;refine mb 2 36 2 rfl ?_
      refine D5 (dT b S hv (.slice none 0 0) cv s.hot [] s.ch) (fun k q af => by
        match k with
        | 0 => exact af
        | 1 => exact af
        | 2 => exact af
        | 3 => exact af
        | k + 4 => cases af) ?_
      have fC : dy E r rm { s with T := 0, fnd := [], ch := s.ch.set s.I (bq.db V s.J (fJ (p1, p2) (q1, q2) (s.fnd)), et D s.J (s.fnd).length) } (ez E r rm s.ph s.I s.J 0 s.dirty hv (.slice none 0 0) cv b lk) (dT b S hv (.slice none 0 0) cv s.hot [] (s.ch.set s.I (bq.db V s.J (fJ (p1, p2) (q1, q2) (s.fnd)), et D s.J (s.fnd).length))) := ⟨hv, _, cv, b, S, lk, hS, cS, (fun h => absurd (hk.symm.trans (show s.ph = 3 from h)) (by decide)), rfl, rfl⟩
      have ni : bG (dT b S hv (.slice none 0 0) cv s.hot [] s.ch) 3 ⟨34, 2, cv, s.ch.length, eD (eC s.ch) ((s.I : Int).toNat * 2) [.p (bX 2 (bq.db V s.J (fJ (p1, p2) (q1, q2) (s.fnd))).length (bD (bq.db V s.J (fJ (p1, p2) (q1, q2) (s.fnd))))), .p (bX 1 (et D s.J (s.fnd).length).length (ck (et D s.J (s.fnd).length)))]⟩ = dT b S hv (.slice none 0 0) cv s.hot [] (s.ch.set s.I (bq.db V s.J (fJ (p1, p2) (q1, q2) (s.fnd)), et D s.J (s.fnd).length)) := by
        rw [Ly rfl bj, show s.ch.length = (s.ch.set s.I (bq.db V s.J (fJ (p1, p2) (q1, q2) s.fnd), et D s.J s.fnd.length)).length from (List.length_set ..).symm];exact Ry
      generalize Hn : bq.db V s.J (fJ (p1, p2) (q1, q2) (s.fnd)) = Kb at *;generalize Ho : et D s.J (s.fnd).length = vM at *;generalize NZ : fJ (p1, p2) (q1, q2) (s.fnd) = L' at *;(repeat first | (with_reducible apply k7 (id := 12) [0,1,2,3,4,5,6,7,8,9,10,11,12,13,14,15,16,17,18,19,20,21,22,23,24,25,26,27,28,29,30,31,32] [4000000]); kernel_rfl; kernel_rfl; rfl | refine cu ?_ | refine iJ ?_ | (with_reducible apply ib 3); (iterate 4 rfl); (omega); (assumption); rfl; kernel_rfl; rfl);refine ze 3 rfl rfl rfl rfl i2 rfl rfl mR.1 rfl ?_;(refine ba ?_)
      ((refine eN rfl aL rfl (bz.of_eq ni.symm) fC.closed rfl e8 ?_))
      exact ⟨_, rfl, rfl, fC⟩
end
section
variable {P : Program} {R : aI} {s : aC} {ops : Array Oper} {dr : Option (List Nat)} {ty : Nat} {pos : String} {after : Array Edge} {guard : Option (Nat × Bool)} {K : aI → aC → Prop} {rest : List Oper}
theorem Cz {bs : List Value} {dst : Option Nat} {f : FuncId} {g : Operand} {aM : Array TypeId} {l : List Operand} {args : List ah} {m0 : Mem} {R0 : aI} {Post : ah → Mem → aI → Prop} [E : Enters P f] (hw : want ops ⟨dst, .call ⟨.value g, l.toArray, aM⟩, ty, pos, after, guard⟩ s = some true) (hm : dY dr ⟨dst, .call ⟨.value g, l.toArray, aM⟩, ty, pos, after, guard⟩ = true)
  (aq : s.look g = some (aQ (.func (.func f) bs.toArray #[]))) (ab : bs.all Bl = true) (aJ : bs.map (fun b => some (xh b)) ++ l.map s.look = args.map some) (hp : da P f args m0 R0 Post) (aA : ∀ x ∈ args, ∀ j, x.owns j → ∃ cs, m0 j = some cs) (pO : ∀ k cs, m0 k = some cs → s.mem k = some cs ∧ (pb dr k = true ∨ ∀ r aG ay, Post r aG ay → aG k = some cs)) (ap : bz R0 R) (fF : ∀ k cs x j, m0 k = some cs → x ∈ cs → x.owns j → ∃ ar, m0 j = some ar) (hd : kT dst s.n = true)
  (h : ∀ r aG ay, Post r aG ay → (∀ k ar, aG k = some ar → (∃ cs, m0 k = some cs) ∨ (s.mem k = none ∧ k < s.n)) ∧ cJ P ops dr K rest (bP ay R) ((s.over aG).put dst r)) : cJ P ops dr K (⟨dst, .call ⟨.value g, l.toArray, aM⟩, ty, pos, after, guard⟩ :: rest) R s := by
 refine ⟨true, hw, L1 hd, .inr (.inr (.inr (.inr (.inl ⟨rfl, hm, f, args, m0, R0, Post, ⟨⟨_, g, rfl, rfl, .inl ⟨bs, aq, ?_, ab⟩⟩, E.h⟩, hp, aA, pO, ap, fF, fun r aG ay h1 _ _ _ => h r aG ay h1⟩))))⟩;simpa using aJ
theorem VC (g e off : Nat) (cs : List AC) : nw g off = jx (iO g e cs).v off := by
 show nw g off = .pointer (some ((⟨g, 0, none⟩ : Addr).add off));rw [Ba, je]
theorem tv {x : Operand} {d lt off g e : Nat} {cs : List AC} {c1 : AC} (i : Nat) [T : e6 P lt false 1] (hi : R i = some (iO g e cs)) (hw : want ops ⟨some d, .load lt x, ty, pos, after, guard⟩ s = some true) (aa : s.look x = some (aQ (nw g off))) (aN : cs[off]? = some c1) (al : (ah.w (.one c1)).aY = true) (ap : tX ops dr (some d) = true) (hd : Nat.blt d s.n = true) (h : cJ P ops dr K rest R (s.put (some d) (.w (.one c1)))) : cJ P ops dr K (⟨some d, .load lt x, ty, pos, after, guard⟩ :: rest) R s :=
 za i hi hw (by rw [aa, VC g e off cs]) Nat.one_pos aN al ap hd h
end
theorem yT {P : Program} {fn : Func} {l : List ResultVar} {xs : List bx} {R R0 bh : aI} {s : aC} {Post : ah → Mem → aI → Prop} (ap : fn.results = l.toArray) (h : l.map (iG P s) = xs.map some) (aw : bz bh R) (aa : (packed xs).aY = true) (az : ∀ i r, R0 i = some r → ∃ aV, bh i = some aV) (hp : Post (packed xs) b3 bh) : tm P fn b3 R0 Post R s :=
 ⟨xs, packed xs, b3, bh, by rw [ap]; exact h, .refl _, hp, fun k c h => (by cases h), aw, fun j ae => absurd ae (ah.dq aa j), fun k c x j h => (by cases h), fun k c h => (by cases h), az⟩
theorem dy.ox {E : List (Int × bT)} {r rm : Nat} {s : bq.aU aj} {cs : List AC} {R : aI} (h : dy E r rm s cs R) : R 9 = none ∧ cs.all AC.aY = true ∧ 0 < cs.length := by
 refine ⟨?_, h.closed, ?_⟩
 ·obtain ⟨_, _, _, _, _, _, _, _, _, _, rfl⟩ := h; rfl
 ·obtain ⟨_, _, _, _, _, _, _, _, _, rfl, _⟩ := h; exact jw _
section
variable {E : List (Int × bT)} {r rm : Nat}
theorem DY {f : FuncId} {s s1 : bq.aU aj} {v : ah} {cs : List AC} {R : aI} (Hm : v.aY = true) (hp : ga E r rm f [] s v s1) (bj : dy E r rm s cs R) (g e : Nat) : da ag f [aQ (eb g)] b3 (bG R 9 (iO g e cs)) fun bW aG ay => ∃ ar bh bo, (bW = v ∧ dy E r rm s1 ar bh) ∧ aG = b3 ∧ ay = bG bh 9 (iO g bo ar) := by
 have h := (hp cs R bj).agS 9 g e rfl bj.ox.2.1 bj.ox.2.2 bj.ox.1 (fun bW aG ay an => by
  obtain ⟨ar, rfl, rfl, an⟩ := an;exact ⟨Hm, an.ox.1, ar, rfl, an.ox.2.1, an.ox.2.2⟩)
 refine ⟨fun U ad W vs cI cD cK => (h.call U ad W vs cI cD cK).mono ?_⟩;rintro cq bf ⟨v1, cx, aG, ay, a7, cw, c0, ⟨ar, bh, bo, ⟨sZ, he, an⟩, rfl, rfl⟩, l5⟩
 have : sZ = ar := by
  have h1 : cG 1000 ar 1000 = some ar := by unfold cG; exact cl _ _ _
  rw [he] at h1;exact (hG h1).2.symm
 subst this;exact ⟨v1, cx, b3, _, a7, cw, c0, ⟨sZ, bh, bo, an, rfl, rfl⟩, l5⟩
theorem DX {f : FuncId} {args : List ah} {s s1 : bq.aU aj} {v : ah} (Hm : v.aY = true) (eg : args.all ah.aY = true) (h : ∀ cs R, dy E r rm s cs R → ∀ g e, da ag f (aQ (eb g) :: args) b3 (bG R 9 (iO g e cs)) fun bW aG ay => ∃ ar bh bo, (bW = v ∧ dy E r rm s1 ar bh) ∧ aG = b3 ∧ ay = bG bh 9 (iO g bo ar)) : ga E r rm f args s v s1 := by
 intro cs R bj;refine da.agR 9 (fun g e => ?_) eg bj.ox.2.1 bj.ox.2.2 bj.ox.1 (fun bW ar ay an => ?_)
 ·refine ⟨fun U ad W vs cI cD cK => ((h cs R bj g e).call U ad W vs cI cD cK).mono ?_⟩;rintro cq bf ⟨v1, cx, aG, ay, a7, cw, c0, ⟨ar, bh, bo, an, rfl, rfl⟩, l5⟩;exact ⟨v1, cx, b3, _, a7, cw, c0, ⟨ar, bh, bo, ⟨ar, rfl, an⟩, rfl, rfl⟩, l5⟩
 ·obtain ⟨sZ, he, rfl, an⟩ := an
  have : sZ = ar := by
   have h1 : cG 1000 ar 1000 = some ar := by unfold cG; exact cl _ _ _
   rw [he] at h1;exact (hG h1).2.symm
  subst this;exact ⟨Hm, an.ox.1, an.ox.2.1, an.ox.2.2⟩
theorem DV {s s1 : bq.aU aj} {cs ar : List AC} {R ay : aI} {g e bo : Nat} (h : dy E r rm s cs R) (aK : dy E r rm s1 ar ay) : ∀ i q, bG R 9 (iO g e cs) i = some q → ∃ cd, bG ay 9 (iO g bo ar) i = some cd := by
 obtain ⟨_, _, _, _, _, _, _, _, _, _, rfl⟩ := h;obtain ⟨_, _, _, _, _, _, _, _, _, _, rfl⟩ := aK;intro i q an
 by_cases qA : i = 9
 ·subst qA; exact ⟨_, cl _ _ _⟩
 ·rw [b9 _ _ qA] at an;obtain ⟨cd, qP⟩ := e8 i q an;exact ⟨cd, by rw [b9 _ _ qA]; exact qP⟩
theorem DW {s s1 : bq.aU aj} {cs ar : List AC} {R ay : aI} {g e bo : Nat} (h : dy E r rm s cs R) (aK : dy E r rm s1 ar ay) : bP (bG ay 9 (iO g bo ar)) (bG R 9 (iO g e cs)) = bG ay 9 (iO g bo ar) := by
 have aA := h.bP aK;funext i
 by_cases qA : i = 9
 ·subst qA; exact (hH (cl _ _ _)).trans (cl _ _ _).symm
 ·have : bP ay R i = ay i := congrFun aA i;unfold bP at this ⊢;rw [b9 _ _ qA, b9 _ _ qA]; exact this
theorem aat {s s1 : bq.aU aj} (hk : s.ph = 0) (hp : ga E r rm 54 [] s lG s1) : ga E r rm 30 [] s (bk true) s1 := by
 refine DX rfl rfl fun cs R bj g e => ?_;have aW := DY rfl hp bj g e;obtain ⟨ph, I, J, T, dirty, hot, fnd, ch⟩ := s;obtain rfl : ph = 0 := hk;obtain ⟨hv, fv, cv, b, S, lk, hS, cS, fV, rfl, rfl⟩ := id bj;refine dt (f := 30) Tryz.func30 rfl (dl rfl) (by exact nQ) ?_;(refine ba ?_);refine tv 9 rfl rfl rfl rfl rfl rfl rfl ?_;(refine ba ?_);refine tv 9 rfl rfl rfl rfl rfl rfl rfl ?_;(refine ba ?_);refine Cz (bs := [eb g]) (args := [aQ (eb g)]) (l := []) rfl rfl rfl rfl rfl aW (fun x aa j ae => by simp at aa; subst aa; exact absurd ae (ja _ j)) (fun k c h => by cases h) (bz.refl _) (fun k c x j h => by cases h) rfl (fun bW aG ay an => ?_);obtain ⟨ar, bh, bo, ⟨rfl, b8⟩, rfl, rfl⟩ := an;refine ⟨fun k c h => (by cases h), ?_⟩;rw [DW bj b8, tN];(refine ba ?_)
 ((refine yT rfl (a8 rfl aL) (bz.refl _) rfl (DV bj b8) ?_))
 exact ⟨ar, bh, bo, ⟨rfl, b8⟩, rfl, rfl⟩
theorem aau {s s1 : bq.aU aj} (hk : s.ph = 1) (hp : ga E r rm 55 [] s lG s1) : ga E r rm 30 [] s (bk true) s1 := by
 refine DX rfl rfl fun cs R bj g e => ?_;have aW := DY rfl hp bj g e;obtain ⟨ph, I, J, T, dirty, hot, fnd, ch⟩ := s;obtain rfl : ph = 1 := hk;obtain ⟨hv, fv, cv, b, S, lk, hS, cS, fV, rfl, rfl⟩ := id bj;refine dt (f := 30) Tryz.func30 rfl (dl rfl) (by exact nQ) ?_;(refine ba ?_);refine tv 9 rfl rfl rfl rfl rfl rfl rfl ?_;(refine ba ?_);refine tv 9 rfl rfl rfl rfl rfl rfl rfl ?_;(refine ba ?_);refine Cz (bs := [eb g]) (args := [aQ (eb g)]) (l := []) rfl rfl rfl rfl rfl aW (fun x aa j ae => by simp at aa; subst aa; exact absurd ae (ja _ j)) (fun k c h => by cases h) (bz.refl _) (fun k c x j h => by cases h) rfl (fun bW aG ay an => ?_);obtain ⟨ar, bh, bo, ⟨rfl, b8⟩, rfl, rfl⟩ := an;refine ⟨fun k c h => (by cases h), ?_⟩;rw [DW bj b8, tN];(refine ba ?_)
 ((refine yT rfl (a8 rfl aL) (bz.refl _) rfl (DV bj b8) ?_))
 exact ⟨ar, bh, bo, ⟨rfl, b8⟩, rfl, rfl⟩
theorem aav {s s1 : bq.aU aj} (hk : s.ph = 2) (hp : ga E r rm 56 [] s lG s1) : ga E r rm 30 [] s (bk true) s1 := by
 refine DX rfl rfl fun cs R bj g e => ?_;have aW := DY rfl hp bj g e;obtain ⟨ph, I, J, T, dirty, hot, fnd, ch⟩ := s;obtain rfl : ph = 2 := hk;obtain ⟨hv, fv, cv, b, S, lk, hS, cS, fV, rfl, rfl⟩ := id bj;refine dt (f := 30) Tryz.func30 rfl (dl rfl) (by exact nQ) ?_;(refine ba ?_);refine tv 9 rfl rfl rfl rfl rfl rfl rfl ?_;(refine ba ?_);refine tv 9 rfl rfl rfl rfl rfl rfl rfl ?_;(refine ba ?_);refine Cz (bs := [eb g]) (args := [aQ (eb g)]) (l := []) rfl rfl rfl rfl rfl aW (fun x aa j ae => by simp at aa; subst aa; exact absurd ae (ja _ j)) (fun k c h => by cases h) (bz.refl _) (fun k c x j h => by cases h) rfl (fun bW aG ay an => ?_);obtain ⟨ar, bh, bo, ⟨rfl, b8⟩, rfl, rfl⟩ := an;refine ⟨fun k c h => (by cases h), ?_⟩;rw [DW bj b8, tN];(refine ba ?_)
 ((refine yT rfl (a8 rfl aL) (bz.refl _) rfl (DV bj b8) ?_))
 exact ⟨ar, bh, bo, ⟨rfl, b8⟩, rfl, rfl⟩
theorem aaw {s s1 : bq.aU aj} (hk : s.ph = 3) (hp : ga E r rm 57 [] s lG s1) : ga E r rm 30 [] s (bk true) s1 := by
 refine DX rfl rfl fun cs R bj g e => ?_;have aW := DY rfl hp bj g e;obtain ⟨ph, I, J, T, dirty, hot, fnd, ch⟩ := s;obtain rfl : ph = 3 := hk;obtain ⟨hv, fv, cv, b, S, lk, hS, cS, fV, rfl, rfl⟩ := id bj;refine dt (f := 30) Tryz.func30 rfl (dl rfl) (by exact nQ) ?_;(refine ba ?_);refine tv 9 rfl rfl rfl rfl rfl rfl rfl ?_;(refine ba ?_);refine tv 9 rfl rfl rfl rfl rfl rfl rfl ?_;(refine ba ?_);refine Cz (bs := [eb g]) (args := [aQ (eb g)]) (l := []) rfl rfl rfl rfl rfl aW (fun x aa j ae => by simp at aa; subst aa; exact absurd ae (ja _ j)) (fun k c h => by cases h) (bz.refl _) (fun k c x j h => by cases h) rfl (fun bW aG ay an => ?_);obtain ⟨ar, bh, bo, ⟨rfl, b8⟩, rfl, rfl⟩ := an;refine ⟨fun k c h => (by cases h), ?_⟩;rw [DW bj b8, tN];(refine ba ?_)
 ((refine yT rfl (a8 rfl aL) (bz.refl _) rfl (DV bj b8) ?_))
 exact ⟨ar, bh, bo, ⟨rfl, b8⟩, rfl, rfl⟩
theorem Oy {s : bq.aU aj} (hk : 4 ≤ s.ph) (aiP : s.ph ≤ 5) : ga E r rm 30 [] s (bk false) s := by
 intro cs R bj;obtain ⟨hv, fv, cv, b, S, lk, hS, cS, fV, rfl, rfl⟩ := id bj;have aD : (s.ph : Int) ≥ 4 := by omega
 refine dt (f := 30) Tryz.func30 rfl (dl rfl) (by exact eo rfl) ?_;(refine ba ?_)
 ((refine eN rfl (a8 rfl aL) rfl (bz.refl _) bj.closed rfl e8 ?_))
 exact ⟨_, rfl, rfl, bj⟩
end
section
variable {E : List (Int × bT)} {r rm : Nat}
abbrev mU (E : List (Int × bT)) (r rm : Nat) (s : bq.aU aj) : Prop := h6 (bp E r rm) (tI (E.map Prod.snd) r) s
structure hO (E : List (Int × bT)) (r rm : Nat) : Prop where
 r : r ≤ 28
 near : gK (E.map Prod.snd) = true
 len : E.length ≤ 300
 pos : 1 ≤ rm
 room : rm ≤ 1024
theorem hO.ok (h : hO E r rm) : kp (bp E r rm) (tI (E.map Prod.snd) r) := afk h.r h.near
theorem hO.n (E : List (Int × bT)) (r rm : Nat) : (bp E r rm).n = E.length := lA ..
theorem hO.wj (h : hO E r rm) {s : bq.aU aj} (ab : jB (bp E r rm) s) (ak : kP (bp E r rm) (tI (E.map Prod.snd) r) s) : km s.ch := by
 have hlen := ak.len;rw [hO.n] at hlen;refine ⟨by have := h.len; omega, fun c al => ?_⟩;obtain ⟨i, hi⟩ := jR al;have h1 := (Bx h.ok ab ak al).1;have h2 : (bp E r rm).R = rm := rfl;have := h.room;exact ⟨(ak.hR i c hi).len, by omega⟩
theorem hO.hot (h : hO E r rm) {s : bq.aU aj} (ab : jB (bp E r rm) s) : s.hot.length ≤ 1024 := by
 have h1 := ab.room;have h2 : (bp E r rm).R = rm := rfl;have := h.room;omega
theorem HD {s : bq.aU aj} (h : hO E r rm) (bj : mU E r rm s) : ga E r rm 30 [] s (bk (decide (s.ph < 4))) (eP (bp E r rm) s) := by
 obtain ⟨ab, az | h1 | h2 | ao | aD | cm⟩ := bj
 ·have e : eP (bp E r rm) s = s6 (bp E r rm) s := by simp only [eP, az.ph]
  rw [e, az.ph];have hi := az.I;rw [hO.n] at hi;exact aat az.ph (aay h.r h.near h.len hi az.dirty az.fnd (h.hot ab) az.ph)
 ·have e : eP (bp E r rm) s = tQ (bp E r rm) s := by simp only [eP, h1.ph]
  rw [e, h1.ph];have hi := h1.J;rw [hO.n] at hi;exact aau h1.ph (aaA h.r h.near h.len h1.xU hi h1.dirty h1.fnd (h.hot ab) h1.ph)
 ·obtain ⟨c, p, q, g1, g2, g3, au⟩ := h2.link;have g4 := bJ h2.T;generalize s.hot[s.T]'h2.T = x at g4
  have e : eP (bp E r rm) s = sa (bp E r rm) s c p q (li (bp E r rm) p q x s.fnd) := by
   simp only [eP, h2.ph, xt, g1, g2, g3, g4]
  rw [e, h2.ph];have al := h2.laid.hR _ _ g1;have hd := Bx h.ok ab h2.laid (cV g1);have aw : (bp E r rm).R = rm := rfl;have aiU := h.room;obtain ⟨V, D⟩ := c;have hp := ab.gS _ (al.hot p (cV g2));have an := ab.gS _ (al.hot q (cV g3));have aR := h.hot ab
  have wP : (li (bp E r rm) p q x s.fnd) = (s.hot.take (s.T + 1)).filter (jo (bp E r rm) p q) := by
   rw [My g4, au];unfold li
   split <;> simp [*]
  refine aav h2.ph (aaB h.r (h.wj ab h2.laid) g1 g2 g3 g4 (fun d j8 => ?_) hp an h2.dirty aR ?_ ?_ h2.ph)
  ·have := hd.2 d j8; omega
  ·rw [au];refine il (List.length_filter_le ..) ?_;rw [dX]; omega
  ·rw [wP];exact (ab.nd.sublist (List.take_sublist ..)).filter _
 ·have e : eP (bp E r rm) s = sc (bp E r rm) s := by simp only [eP, ao.ph]
  rw [e, ao.ph];have al := h.wj ab ao.laid;refine aaw ao.ph (aaz h.r al ?_ ao.xU ao.J (fun l ak => ?_) ao.fnd (h.hot ab) ao.ph)
  ·have := ao.J;cases Yh : s.ch with
   | nil => rw [Yh] at this; simp [a6] at this
   | cons => exact jw _
  ·obtain ⟨_, a1, a2⟩ := C2 h.ok ao.laid ak;exact ⟨ab.gS _ a1, ab.gS _ a2⟩
 ·have e : eP (bp E r rm) s = s := by simp only [eP, aD.ph]
  rw [e, aD.ph];exact Oy (by rw [aD.ph]; decide) (by rw [aD.ph]; decide)
 ·have e : eP (bp E r rm) s = s := by simp only [eP, cm.ph]
  rw [e, cm.ph];exact Oy (by rw [cm.ph]; decide) (by rw [cm.ph]; decide)
end
section
variable {E : List (Int × bT)} {r rm : Nat}
theorem Ow {s : bq.aU aj} : ga E r rm 26 [] s (aE s.ph) s := by
 intro cs R bj;obtain ⟨hv, fv, cv, b, S, lk, hS, cS, fV, rfl, rfl⟩ := id bj;refine dt (f := 26) Tryz.func26 rfl (dl rfl) (by exact eo rfl) ?_;(refine ba ?_)
 ((refine eN rfl (a8 rfl aL) rfl (bz.refl _) bj.closed rfl e8 ?_))
 exact ⟨_, rfl, rfl, bj⟩
def TP (E : List (Int × bT)) (r rm : Nat) (n : Int) (s : bq.aU aj) (k : Nat) (R : aI) (aM : List (Nat × ah)) (bi : List (Nat × List AC)) : Prop :=
 ∃ (d : Nat) (s1 : bq.aU aj) (hv fv cv : Value) (b : Nat) (S : e0) (lk : AC), k = n.toNat - d ∧ d ≤ n.toNat ∧ mU E r rm s1 ∧ eK (bp E r rm) n.toNat s = ((eK (bp E r rm) k s1).1 + d, (eK (bp E r rm) k s1).2) ∧ dy E r rm s1 (ez E r rm s1.ph s1.I s1.J s1.T s1.dirty hv fv cv b lk) (dT b S hv fv cv s1.hot s1.fnd s1.ch) ∧ lk.aY = true ∧ R = dT b S hv fv cv s1.hot s1.fnd s1.ch ∧ aM = [(0, rr), (1, aE n), (5, aE d)] ∧ bi = [(1000, ez E r rm s1.ph s1.I s1.J s1.T s1.dirty hv fv cv b lk)]
theorem CT {s : bq.aU aj} (h : hO E r rm) (hs : mU E r rm s) {n : Int} (ax : n ≤ 1000000000000) : ga E r rm 29 [aE n] s (aE (eK (bp E r rm) n.toNat s).1) (eK (bp E r rm) n.toNat s).2 := by
 intro cs R bj;obtain ⟨hv, fv, cv, b, S, lk, hS, cS, fV, rfl, rfl⟩ := id bj;refine dt (f := 29) Tryz.func29 rfl (dl rfl) (by exact eo rfl) ?_;(refine ba ?_);refine jW 16 (TP E r rm n s) n.toNat (dT b S hv fv cv s.hot s.fnd s.ch) _ [(1000, ez E r rm s.ph s.I s.J s.T s.dirty hv fv cv b lk)] ⟨0, s, hv, fv, cv, b, S, lk, rfl, dx _, hs, rfl, bj, cS, rfl, rfl, rfl⟩ (bz.refl _) rfl ⟨rfl, rfl, rfl, trivial⟩ ⟨rfl, trivial⟩ ?_ ?_
 ·cases lk <;> first | rfl | cases cS
 clear bj hS cS fV;rintro k R aM bi ⟨d, s1, hv, fv, cv, b, S, lk, rfl, hd, tu, gI, bj, cS, rfl, rfl, rfl⟩ cT;clear cT
 by_cases bb : d < n.toNat
 ·have q1 : (d : Int) < n := by omega
  have c0 : (0 : Int) ≤ (d : Int) := by omega
  obtain ⟨bn, qM⟩ : ∃ bn, n.toNat - d = bn + 1 := ⟨n.toNat - d - 1, by omega⟩;have aW := HD h tu;have hinv := (xD h.ok tu)
  by_cases aD : s1.ph < 4
  ·rw [bZ aD] at aW;(repeat first | refine cu ?_ | (with_reducible apply gf); rfl; (repeat first | refine gP ?_ | (with_reducible apply cg (c := true)); rfl; rfl; (exact bZ (by omega))); (with_reducible apply fL));refine ic rfl rfl rfl rfl rfl rfl rfl rfl aW bj (fun ar ay b8 => ?_);obtain ⟨bQ, c8, cZ, bS, dh, gY, fO, hg, iy, rfl, rfl⟩ := id b8;(refine ba ?_);refine ⟨bn, _, _, [(1000, ez E r rm (eP (bp E r rm) s1).ph (eP (bp E r rm) s1).I (eP (bp E r rm) s1).J (eP (bp E r rm) s1).T (eP (bp E r rm) s1).dirty bQ c8 cZ bS gY)], by omega, ⟨d + 1, eP (bp E r rm) s1, bQ, c8, cZ, bS, dh, gY, by omega, by omega, hinv.1, ?_, b8, hg, rfl, rfl, rfl⟩, bz.refl _, rfl, ⟨rfl, rfl, rfl, trivial⟩, ⟨rfl, trivial⟩, ?_⟩
   ·rw [gI, qM];have BW : ¬ 4 ≤ s1.ph := by omega
    have e : eK (bp E r rm) (bn + 1) s1 = ((eK (bp E r rm) bn (eP (bp E r rm) s1)).1 + 1, (eK (bp E r rm) bn (eP (bp E r rm) s1)).2) := if_neg BW;rw [e];exact Prod.ext (by show _ + 1 + d = _ + (d + 1); omega) rfl
   ·cases gY <;> first | rfl | cases hg
  ·have BW : 4 ≤ s1.ph := by omega
   rw [cp aD, hinv.2.2 BW] at aW;rw [afD BW] at gI;have gI : eK (bp E r rm) n.toNat s = (d, s1) := by rw [gI]; exact Prod.ext (je d) rfl
   (repeat first | refine cu ?_ | (with_reducible apply gf); rfl; (repeat first | refine gP ?_ | (with_reducible apply cg (c := true)); rfl; rfl; (exact bZ (by omega))); (with_reducible apply fL));refine ic rfl rfl rfl rfl rfl rfl rfl rfl aW bj (fun ar ay b8 => ?_);obtain ⟨bQ, c8, cZ, bS, dh, gY, fO, hg, iy, rfl, rfl⟩ := id b8;(refine ba ?_)
   ((refine eN rfl (a8 rfl aL) rfl (bz.refl _) b8.closed rfl e8 ?_))
   refine ⟨_, rfl, ?_, ?_⟩
   ·rw [gI]; rfl
   ·rw [gI]; exact b8
 ·have q1 : ¬ (d : Int) < n := by omega
  have hT : n.toNat - d = 0 := by omega
  rw [hT] at gI;have gI : eK (bp E r rm) n.toNat s = (d, s1) := by rw [gI]; exact Prod.ext (je d) rfl
  (repeat first | refine cu ?_ | (with_reducible apply gf); rfl; (repeat first | refine gP ?_ | (with_reducible apply cg (c := false)); rfl; rfl; (exact cp (by omega))); (with_reducible apply fL))
  ((refine eN rfl (a8 rfl aL) rfl (bz.refl _) bj.closed rfl e8 ?_))
  refine ⟨_, rfl, ?_, ?_⟩
  ·rw [gI]; rfl
  ·rw [gI]; exact bj
def oz (ch : List (List aj × List Int)) : Int := ch.foldl (fun a c => max a (eX c.2)) 0
theorem Wm {ch : List (List aj × List Int)} {k : Nat} {c : List aj × List Int} (h : ch[k]? = some c) : oz (ch.take (k + 1)) = max (oz (ch.take k)) (eX c.2) := by
 have af := (bA.1 h).1
 have e : ch.take (k + 1) = ch.take k ++ [c] := by
  rw [jT af, (bA.1 h).2]
 unfold oz;rw [e, List.foldl_append]; rfl
def Tc (E : List (Int × bT)) (r rm : Nat) (s : bq.aU aj) (hv fv cv : Value) (b : Nat) (S : e0) (lk : AC) (n : Nat) (R : aI) (aM : List (Nat × ah)) (bi : List (Nat × List AC)) : Prop :=
 ∃ (k : Nat) (cU d : Int), k ≤ s.ch.length ∧ n = s.ch.length - k ∧ cU = k ∧ d = oz (s.ch.take k) ∧ R = dT b S hv fv cv s.hot s.fnd s.ch ∧ aM = [(3, aE d), (10, aQ cv), (11, aE s.ch.length), (12, aE cU)] ∧ bi = [(1000, ez E r rm s.ph s.I s.J s.T s.dirty hv fv cv b lk)]
theorem Ov {s : bq.aU aj} (al : km s.ch) : ga E r rm 14 [] s (aE (oz s.ch)) s := by
 intro cs R bj;obtain ⟨hv, fv, cv, b, S, lk, hS, cS, fV, rfl, rfl⟩ := id bj;refine dt (f := 14) Tryz.func14 rfl (dl rfl) (by exact eo rfl) ?_;(repeat first | refine cu ?_ | (with_reducible apply lr 3); (iterate 4 rfl); kernel_rfl; rfl);refine jW 22 (Tc E r rm s hv fv cv b S lk) s.ch.length (dT b S hv fv cv s.hot s.fnd s.ch) _ [(1000, ez E r rm s.ph s.I s.J s.T s.dirty hv fv cv b lk)] ⟨0, 0, 0, dx _, rfl, rfl, rfl, rfl, rfl, rfl⟩ (bz.refl _) rfl ⟨rfl, rfl, rfl, rfl, trivial⟩ ⟨rfl, trivial⟩ ?_ ?_
 ·cases lk <;> first | rfl | cases cS
 rintro n R aM bi ⟨k, cU, d, af, rfl, hA, j9, rfl, rfl, rfl⟩ cT;clear cT;have hlen := al.1
 by_cases an : k < s.ch.length
 ·obtain ⟨V, D, g1⟩ : ∃ V D, s.ch[k]? = some (V, D) := ⟨_, _, bJ an⟩;obtain ⟨gd, fT⟩ := al.2 _ (cV g1);simp only at gd fT;obtain ⟨mR, sJ⟩ := Bq (ii := cU) hA g1;have q2 : cU < (s.ch.length : Int) := by omega
  have bR : 0 ≤ cU := by omega
  have dD : 0 < s.ch.length := by omega
  have aB := Wm g1;rw [← j9, show max d (eX (V, D).2) = if eX D > d then eX D else d by show max d (eX D) = _; split <;> omega] at aB;have aW := aai V D fT (by omega);(repeat first | refine cu ?_ | refine iJ ?_ | (with_reducible apply ib 3); (iterate 4 rfl); (omega); (assumption); rfl; kernel_rfl; rfl | (with_reducible apply ls 3); (iterate 3 rfl); (assumption); assumption; rfl; kernel_rfl; rfl);refine ⟨s.ch.length - (k + 1), dT b S hv fv cv s.hot s.fnd s.ch, _, [(1000, ez E r rm s.ph s.I s.J s.T s.dirty hv fv cv b lk)], by omega, ⟨k + 1, cU + 1, _, by omega, rfl, by omega, aB.symm, rfl, rfl, rfl⟩, bz.refl _, rfl, ⟨rfl, rfl, rfl, rfl, trivial⟩, ⟨rfl, trivial⟩, ?_⟩;cases lk <;> first | rfl | cases cS
 ·have q2 : ¬ cU < (s.ch.length : Int) := by omega
  have cq : s.ch.take k = s.ch := gn (by omega);rw [cq] at j9;(refine ba ?_)
  ((refine eN rfl (a8 rfl aL) rfl (bz.refl _) bj.closed rfl e8 ?_))
  exact ⟨_, rfl, by rw [← j9]; rfl, bj⟩
end
theorem Ki {n : Nat} {xs : List AC} (ax : n ≤ 900000) (al : xs.all AC.aY = true) (aa : xs.length = 2 * n) : pf ag 62 [cM 2 n xs] fun v q => ∃ v', v = aQ v' ∧ q = ⟨36, 2, v', n, xs⟩ := by
 refine E2 rfl (fun v q h => by obtain ⟨v', rfl, _⟩ := h; rfl) ?_;refine dt (f := 62) Tryz.func62 rfl (dl rfl) (by exact nQ) ?_;(refine ba ?_);refine RW 4 rfl ?_;intro b ab;cases b with
 | true =>
  have az := ab rfl;subst az;have h1 := jv aa;subst h1;clear ab;refine mb 0 36 2 rfl ?_;(refine ba ?_)
  ((refine yU rfl (a8 rfl aL) rfl rfl (jw _) ?_))
  exact ⟨.slice none 0 0, rfl, rfl⟩
 | false =>
  clear ab;(refine ba ?_);refine NO 0 rfl rfl rfl rfl rfl (fun v0 oJ => ?_);(refine ba ?_);refine n2 0 rfl rfl rfl rfl ?q1 ?q2 al rfl (fun v1 iW => ?_)
  case q1 => exact js (by show 0 + n ≤ 1000000; omega)
  case q2 => show (0 + n) * 16 ≤ 140737488355328; omega
  (refine ba ?_)
  ((refine yU rfl (a8 rfl aL) rfl rfl (jw _) ?_))
  exact ⟨v1, rfl, by rw [List.nil_append, je]⟩
theorem Ua {n : Nat} {xs : List AC} (ax : n ≤ 900000) (al : xs.all AC.aY = true) (aa : xs.length = 2 * n) : pf ag 63 [cM 2 n xs] fun v q => ∃ v', v = aQ v' ∧ q = ⟨34, 2, v', n, xs⟩ := by
 refine E2 rfl (fun v q h => by obtain ⟨v', rfl, _⟩ := h; rfl) ?_;refine dt (f := 63) Tryz.func63 rfl (dl rfl) (by exact nQ) ?_;(refine ba ?_);refine RW 4 rfl ?_;intro b ab;cases b with
 | true =>
  have az := ab rfl;subst az;have h1 := jv aa;subst h1;clear ab;refine mb 0 34 2 rfl ?_;(refine ba ?_)
  ((refine yU rfl (a8 rfl aL) rfl rfl (jw _) ?_))
  exact ⟨.slice none 0 0, rfl, rfl⟩
 | false =>
  clear ab;(refine ba ?_);refine NO 0 rfl rfl rfl rfl rfl (fun v0 oJ => ?_);(refine ba ?_);refine n2 0 rfl rfl rfl rfl ?q1 ?q2 al rfl (fun v1 iW => ?_)
  case q1 => exact js (by show 0 + n ≤ 1000000; omega)
  case q2 => show (0 + n) * 48 ≤ 140737488355328; omega
  (refine ba ?_)
  ((refine yU rfl (a8 rfl aL) rfl rfl (jw _) ?_))
  exact ⟨v1, rfl, by rw [List.nil_append, je]⟩
abbrev pa (k rm ph I J T : Int) (dirty : Bool) (hv fv cv : Value) : List AC := [.c (.int .i64 k), .c (.int .i64 rm), .c (.int .i64 ph), .c (.int .i64 I), .c (.int .i64 J), .c (.int .i64 T), .c (.bool dirty), .c hv, .c fv, .c cv]
abbrev sw (hv fv cv : Value) (hot fnd : List aj) (ch : List (List aj × List Int)) : aI := bG (bG (bt 1 (iD hv hot)) 2 (iD fv fnd)) 3 (wh cv ch)
abbrev lD (hv fv cv : Value) (hot fnd : List aj) (ch : List (List aj × List Int)) (R : aI) : aI := bG (bG (bG R 4 (iD hv hot)) 5 (iD fv fnd)) 6 (wh cv ch)
theorem aff {hv fv cv : Value} {hot fnd : List aj} {ch : List (List aj × List Int)} {R : aI} : bG (lD hv fv cv hot fnd ch R) 6 (wh cv ch) = lD hv fv cv hot fnd ch R := by
 funext k
 by_cases hT : k = 6
 ·subst hT; rfl
 ·rw [b9 _ _ hT]
theorem Fu (ch : List (List aj × List Int)) : (eC ch).length = 2 * ch.length := by
 unfold eC; induction ch with
 | nil => rfl
 | cons c l bI => rw [List.flatMap_cons, cF, bI, jQ]; show 2 + _ = _; omega
theorem VU (ch : List (List aj × List Int)) : ∀ y ∈ eC ch, y.aY = true := fun y ai => by
 obtain ⟨c, _, h⟩ := List.mem_flatMap.1 ai;simp only [pz, gj, List.not_mem_nil, or_false] at h;rcases h with rfl | rfl <;> rfl
theorem Ol (l : List aj) : ∀ y ∈ bD l, y.aY = true := b6.1 (vg l)
theorem VW {ch : List (List aj × List Int)} {i : Nat} {V : List aj} {D : List Int} (h : ch[i]? = some (V, D)) : eD (eC ch) (2 * i) [.p (bX 2 V.length (bD V)), .p (bX 1 D.length (ck D))] = eC ch := by
 have hi := (bA.1 h).1
 have e : ch = ch.take i ++ (V, D) :: ch.drop (i + 1) := by
  conv => lhs; rw [← ju i ch, mG hi, (bA.1 h).2]
 have aP : eC ch = eC (ch.take i) ++ ([.p (bX 2 V.length (bD V)), .p (bX 1 D.length (ck D))] ++ eC (ch.drop (i + 1))) := by
  conv => lhs; rw [e]
  simp [eC, pz]
 have ak : (eC (ch.take i)).length = 2 * i := by rw [Fu, dX]; congr 1; omega
 rw [aP, Jc ak];simp
def S9 (hv fv cv bQ c8 cZ : Value) (k rm ph I J T : Int) (dirty : Bool) (hot fnd : List aj) (ch : List (List aj × List Int)) (n : Nat) (R : aI) (aM : List (Nat × ah)) (bi : List (Nat × List AC)) : Prop :=
 ∃ (i : Nat) (ii : Int), i ≤ ch.length ∧ n = ch.length - i ∧ ii = i ∧ R = lD bQ c8 cZ hot fnd ch (sw hv fv cv hot fnd ch) ∧ aM = [(1, .w (.one (.own 1 0))), (2, .w (.one (.own 2 0))), (18, aQ cZ), (19, aE ch.length), (20, aE ii)] ∧ bi = [(1, pa k rm ph I J T dirty bQ c8 cZ), (2, pa 0 0 0 0 0 0 false (.slice none 0 0) (.slice none 0 0) (.slice none 0 0))]
theorem aax {k rm ph I J T : Int} {dirty : Bool} {hv fv cv : Value} {hot fnd : List aj} {ch : List (List aj × List Int)} (aR : hot.length ≤ 900000) (au : fnd.length ≤ 900000) (al : km ch) :
  da ag 34 [.w (.agg (pa k rm ph I J T dirty hv fv cv))] b3 (sw hv fv cv hot fnd ch) fun bW aG ay => ∃ bQ c8 cZ, bW = .w (.agg (pa k rm ph I J T dirty bQ c8 cZ)) ∧ aG = b3 ∧ ay = lD bQ c8 cZ hot fnd ch (sw hv fv cv hot fnd ch) := by
 have hlen := al.1;have gB : ∀ aT : List AC, aT.length = (iD hv hot).aT.length → aT.all AC.aY = true → pf ag 62 [cM 2 hot.length aT] fun v q => ∃ v', v = aQ v' ∧ q = ⟨36, 2, v', hot.length, aT⟩ := fun aT ak ai => Ki aR ai (by rw [ak, n5, Nat.mul_comm]);have kK : ∀ aT : List AC, aT.length = (iD fv fnd).aT.length → aT.all AC.aY = true → pf ag 62 [cM 2 fnd.length aT] fun v q => ∃ v', v = aQ v' ∧ q = ⟨36, 2, v', fnd.length, aT⟩ := fun aT ak ai => Ki au ai (by rw [ak, n5, Nat.mul_comm]);have uh : ∀ aT : List AC, aT.length = (wh cv ch).aT.length → aT.all AC.aY = true → pf ag 63 [cM 2 ch.length aT] fun v q => ∃ v', v = aQ v' ∧ q = ⟨34, 2, v', ch.length, aT⟩ := fun aT ak ai => Ua (by omega) ai (by rw [ak, Fu]);refine dt (f := 34) Tryz.func34 rfl (dl rfl) (by exact nQ) ?_;(repeat first | (with_reducible apply k7 (id := 1) [0,1,3,4,6,7,2,9,5,8,10,11,12,13,14] [7,10,13]); kernel_rfl; kernel_rfl; rfl | refine cu ?_);refine Hd 1 4 (by decide) rfl rfl rfl rfl gB rfl (jw _) (Ol _) rfl (fun bQ => ?_);(refine ba ?_);refine Hd 2 5 (by decide) rfl rfl rfl rfl kK rfl (jw _) (Ol _) rfl (fun c8 => ?_)
 skip
 refine Hd 3 6 (by decide) rfl rfl rfl rfl uh rfl (jw _) (VU _) rfl (fun cZ => ?_);(repeat first | refine cu ?_ | (with_reducible apply lr 6); (iterate 4 rfl); kernel_rfl; rfl);refine jW 33 (S9 hv fv cv bQ c8 cZ k rm ph I J T dirty hot fnd ch) ch.length (lD bQ c8 cZ hot fnd ch (sw hv fv cv hot fnd ch)) _ [(1, pa k rm ph I J T dirty bQ c8 cZ), (2, pa 0 0 0 0 0 0 false (.slice none 0 0) (.slice none 0 0) (.slice none 0 0))] ⟨0, 0, dx _, rfl, rfl, rfl, rfl, rfl⟩ (bz.refl _) rfl ⟨rfl, rfl, rfl, rfl, rfl, trivial⟩ ⟨rfl, rfl, trivial⟩ rfl ?_;rintro n R aM bi ⟨i, ii, hi, rfl, fp, rfl, rfl, rfl⟩ cT;clear cT
 by_cases an : i < ch.length
 ·obtain ⟨V, D, g1⟩ : ∃ V D, ch[i]? = some (V, D) := ⟨_, _, bJ an⟩;obtain ⟨gd, fT⟩ := al.2 _ (cV g1);simp only at gd fT;obtain ⟨mR, sJ⟩ := Bq (ii := ii) fp g1;have aW := aah V D fT (by omega);have q2 : ii < (ch.length : Int) := by omega
  have bR : 0 ≤ ii := by omega
  have dD : 0 < ch.length := by omega
  have aF : ii.toNat * 2 = 2 * i := by omega
  have G5 : ii.toNat * 2 + 2 ≤ (eC ch).length := by rw [Fu]; omega
  have cr : eD (eC ch) (ii.toNat * 2) [.p (bX 2 V.length (bD V)), .p (bX 1 D.length (ck D))] = eC ch := by rw [aF]; exact VW g1
  (repeat first | (with_reducible apply k7 (id := 5) [0,1,2,3,4,5,6] [4000000]); kernel_rfl; kernel_rfl; rfl | refine cu ?_ | refine iJ ?_ | (with_reducible apply ib 6); (iterate 4 rfl); (omega); (assumption); rfl; kernel_rfl; rfl | (with_reducible apply ls 6); (iterate 3 rfl); (assumption); assumption; rfl; kernel_rfl; rfl);refine ze 6 rfl rfl rfl rfl dD rfl rfl G5 rfl ?_;(refine ba ?_);refine ⟨ch.length - (i + 1), lD bQ c8 cZ hot fnd ch (sw hv fv cv hot fnd ch), _, [(1, pa k rm ph I J T dirty bQ c8 cZ), (2, pa 0 0 0 0 0 0 false (.slice none 0 0) (.slice none 0 0) (.slice none 0 0))], by omega, ⟨i + 1, ii + 1, by omega, rfl, by omega, rfl, rfl, rfl⟩, fun k q af => ?_, rfl, ⟨rfl, rfl, rfl, rfl, rfl, trivial⟩, ⟨rfl, rfl, trivial⟩, rfl⟩
  have ew : bG (lD bQ c8 cZ hot fnd ch (sw hv fv cv hot fnd ch)) 6 (⟨34, 2, cZ, ch.length, eD (eC ch) (ii.toNat * 2) [.p (bX 2 V.length (bD V)), .p (bX 1 D.length (ck D))]⟩ : bE) = lD bQ c8 cZ hot fnd ch (sw hv fv cv hot fnd ch) := by
   rw [cr]; exact aff
  exact (congrFun ew k).trans af
 ·have q2 : ¬ ii < (ch.length : Int) := by omega
  (refine ba ?_)
  ((refine yT rfl (cL rfl rfl rfl aL) (bz.refl _) rfl (fun j q h => ?_) ?_))
  ·match j with
   | 0 => cases h
   | 1 => exact ⟨_, rfl⟩
   | 2 => exact ⟨_, rfl⟩
   | 3 => exact ⟨_, rfl⟩
   | j + 4 => cases h
  ·exact ⟨bQ, c8, cZ, rfl, rfl, rfl⟩
theorem ae8 {b : Nat} {S : e0} {hv fv cv : Value} {hot fnd : List aj} {ch : List (List aj × List Int)} : bz (sw hv fv cv hot fnd ch) (dT b S hv fv cv hot fnd ch)
 | 0, _, h => by cases h
 | 1, _, h => h
 | 2, _, h => h
 | 3, _, h => h
 | k + 4, _, h => by cases h
theorem afh {b : Nat} {S : e0} {hv fv cv bQ c8 cZ : Value} {hot fnd : List aj} {ch : List (List aj × List Int)} : bP (lD bQ c8 cZ hot fnd ch (sw hv fv cv hot fnd ch)) (dT b S hv fv cv hot fnd ch) = lD bQ c8 cZ hot fnd ch (dT b S hv fv cv hot fnd ch) := by
 funext i
 match i with
 | 0 => rfl
 | 1 => rfl
 | 2 => rfl
 | 3 => rfl
 | 4 => rfl
 | 5 => rfl
 | 6 => rfl
 | i + 7 => rfl
theorem afg {hv fv cv : Value} {hot fnd : List aj} {ch : List (List aj × List Int)} {R : aI} : ∀ i r, R i = some r → ∃ aV, lD hv fv cv hot fnd ch R i = some aV := fun i r h => by
 by_cases rJ : i = 6
 ·subst rJ; exact ⟨_, cl _ _ _⟩
 ·by_cases lN : i = 5
  ·subst lN; exact ⟨_, rfl⟩
  ·by_cases ew : i = 4
   ·subst ew; exact ⟨_, rfl⟩
   ·exact ⟨r, by unfold lD; rw [b9 _ _ rJ, b9 _ _ lN, b9 _ _ ew]; exact h⟩
section
variable {E : List (Int × bT)} {r rm : Nat}
theorem aar {s : bq.aU aj} (aR : s.hot.length ≤ 900000) (au : s.fnd.length ≤ 900000) (al : km s.ch) {cs : List AC} {R : aI} (bj : dy E r rm s cs R) :
  da ag 11 [rr] (cG 1000 cs) R (oq 1000 fun bW ar ay => ∃ hv fv cv, bW = .w (.agg (pa r rm s.ph s.I s.J s.T s.dirty hv fv cv)) ∧ ar = cs ∧ ay = lD hv fv cv s.hot s.fnd s.ch R) := by
 obtain ⟨hv, fv, cv, b, S, lk, hS, cS, fV, rfl, rfl⟩ := id bj;have aW := aax (k := (r : Int)) (rm := (rm : Int)) (ph := (s.ph : Int)) (I := (s.I : Int)) (J := (s.J : Int)) (T := (s.T : Int)) (dirty := s.dirty) (hv := hv) (fv := fv) (cv := cv) aR au al;refine dt (f := 11) Tryz.func11 rfl (dl rfl) (by exact eo rfl) ?_;(refine ba ?_);refine NM (l := _) (args := [_]) rfl rfl rfl rfl aW ae8 rfl rfl ?_;rintro _ _ _ ⟨bQ, c8, cZ, rfl, rfl, rfl⟩;refine ⟨rfl, ?_⟩;rw [afh];(refine ba ?_)
 ((refine eN rfl (cL rfl rfl rfl aL) rfl (bz.refl _) bj.closed rfl afg ?_))
 exact ⟨_, rfl, bQ, c8, cZ, rfl, rfl, rfl⟩
end
instance ajb : mV ag 69 68 5 40 := ⟨by kernel_rfl⟩
abbrev Jp : ah := aQ (.func (.func 86) #[] #[])
theorem Qq {x y : Int} : aH ag 87 [aZ x y] (bk (gg (x, y))) := by
 have cs : ((if y < x then y else x) ≥ -134217728 ∧ gg (x, y) = decide ((if y > x then y else x) < 134217728)) ∨ (¬ (if y < x then y else x) ≥ -134217728 ∧ gg (x, y) = false) := by
  by_cases h : (if y < x then y else x) ≥ -134217728
  ·refine .inl ⟨h, ?_⟩;rw [nx, pX, decide_eq_true_iff];show ((_ ≤ x ∧ x < _) ∧ _ ≤ y ∧ y < _) ↔ _
   split at h <;> split <;> omega
  ·refine .inr ⟨h, ?_⟩;cases ax : gg (x, y) with
   | false => rfl
   | true =>
    obtain ⟨⟨a1, a2⟩, a3, a4⟩ : ((_ ≤ x ∧ x < _) ∧ _ ≤ y ∧ y < _) := pX.1 ax
    split at h <;> omega
 rcases cs with ⟨h, e⟩ | ⟨h, e⟩
 all_goals
  rw [e];refine bl (f := 87) Tryz.func87 rfl rfl rfl rfl ?_;(repeat first | refine eA ?_ | (with_reducible apply cg (c := true)); rfl; rfl; (exact bZ (by omega)) | (with_reducible apply cg (c := false)); rfl; rfl; (exact cp (by omega)))
  ((refine bd rfl (a8 rfl aL) ?_))
  exact ah.aS.refl _
abbrev wa (x : Int × bT) : Bool := !(gg x.2.1 && gg x.2.2)
theorem ads {o a b c d : Int} : aH ag 86 [.w (.agg [.c (.int .i64 a), .c (.int .i64 b), .c (.int .i64 c), .c (.int .i64 d), .c (.int .i64 o)])] (bk (wa (o, (a, b), (c, d)))) := by
 have aW := Qq (x := a) (y := b);have bH := Qq (x := c) (y := d);unfold wa;simp only;cases h1 : gg (a, b) with
 | true =>
  rw [h1] at aW;rw [l8];refine bl (f := 86) Tryz.func86 rfl rfl rfl rfl ?_;(refine cc ?_)
  ((refine bd rfl (a8 rfl aL) ?_))
  exact ah.aS.refl _
 | false =>
  rw [h1] at aW;rw [Bool.false_and];refine bl (f := 86) Tryz.func86 rfl rfl rfl rfl ?_;(refine cc ?_)
  ((refine bd rfl (a8 rfl aL) ?_))
  exact ah.aS.refl _
def tb : List (Int × bT) → Int → Int
 | [], _ => -1
 | p :: l, i => if wa p = true then i else tb l (i + 1)
theorem MK (p : Int × bT) (l : List (Int × bT)) (i : Int) : tb (p :: l) i = if wa p = true then i else tb l (i + 1) := rfl
theorem MJ : ∀ (l : List (Int × bT)) (i : Int), 0 ≤ i → (decide (tb l i ≥ 0)) = !gK (l.map Prod.snd)
 | [], i, h => rfl
 | p :: l, i, h => by
  have bI := MJ l (i + 1) (by omega);have e : gK ((p :: l).map Prod.snd) = ((gg p.2.1 && gg p.2.2) && gK (l.map Prod.snd)) := rfl;rw [e, MK];unfold wa;cases hp : (gg p.2.1 && gg p.2.2) with
  | false => rw [if_pos (show (!false) = true from rfl), Bool.false_and]; exact bZ h
  | true => rw [if_neg (by decide), l8]; exact bI
def Tl (E : List (Int × bT)) (k : Nat) (aM : List (Nat × ah)) (bi : List (Nat × List AC)) : Prop :=
 ∃ (i : Nat) (ii : Int), i ≤ E.length ∧ k = E.length - i ∧ ii = i ∧ tb E 0 = tb (E.drop i) ii ∧ bi = [] ∧ aM = [(0, jh E), (1, Jp), (7, aE E.length), (8, aE ii)]
theorem adQ {E : List (Int × bT)} (ap : E.length ≤ 4611686018427387904) : aH ag 120 [jh E, Jp] (aE (tb E 0)) := by
 refine bl (f := 120) Tryz.func120 rfl rfl rfl rfl ?_;(refine eS ?_);refine qv 19 (Tl E) E.length _ [] ⟨0, 0, dx _, rfl, rfl, rfl, rfl, rfl⟩ rfl ⟨rfl, rfl, rfl, rfl, trivial⟩ trivial rfl ?_;rintro n aM bi ⟨j, ek, ae, rfl, nc, gG, rfl, rfl⟩ cT;clear cT
 by_cases hp : j < E.length
 ·have p2 : ek < (E.length : Int) := by omega
  have p3 : 0 ≤ ek := by omega
  obtain ⟨o, a, b, c, d, g1⟩ : ∃ o a b c d, E[j]? = some (o, (a, b), (c, d)) := ⟨_, _, _, _, _, bJ hp⟩;have mR := uO nc g1;have hd : E.drop j = (o, (a, b), (c, d)) :: E.drop (j + 1) := by rw [mG hp, (bA.1 g1).2]
  have ko := ads (o := o) (a := a) (b := b) (c := c) (d := d);rw [hd, MK] at gG;cases au : wa (o, (a, b), (c, d)) with
  | true =>
   rw [au] at gG ko;rw [if_pos rfl] at gG;rw [gG];(refine cc ?_)
   ((refine bd rfl (a8 rfl aL) ?_))
   exact ah.aS.refl _
  | false =>
   rw [au] at gG ko;rw [if_neg (by simp)] at gG;(refine cc ?_);exact ⟨E.length - (j + 1), _, [], by omega, ⟨j + 1, ek + 1, hp, rfl, by omega, gG, rfl, rfl⟩, rfl, ⟨rfl, rfl, rfl, rfl, trivial⟩, trivial, rfl⟩
 ·have e : j = E.length := by omega
  subst e;rw [List.drop_length] at gG;rw [show tb [] ek = -1 from rfl] at gG;rw [gG];(refine eS ?_)
  ((refine bd rfl (a8 rfl aL) ?_))
  exact ah.aS.refl _
theorem adz {E : List (Int × bT)} (ap : E.length ≤ 4611686018427387904) : aH ag 85 [jh E, Jp] (bk (!gK (E.map Prod.snd))) := by
 have ko := adQ ap;rw [← MJ E 0 (by decide)];refine bl (f := 85) Tryz.func85 rfl rfl rfl rfl ?_;(refine cc ?_)
 ((refine bd rfl (a8 rfl aL) ?_))
 exact ah.aS.refl _
theorem adr {E : List (Int × bT)} (ap : E.length ≤ 4611686018427387904) : aH ag 49 [jh E] (bk (gK (E.map Prod.snd))) := by
 have ko := adz ap;have e : gK (E.map Prod.snd) = !(!gK (E.map Prod.snd)) := (Bool.not_not _).symm;rw [e];generalize (!gK (E.map Prod.snd)) = q at *;refine bl (f := 49) Tryz.func49 rfl rfl rfl rfl ?_;(refine cc ?_)
 ((refine bd rfl (a8 rfl aL) ?_))
 exact ah.aS.refl _
theorem ady {E : List (Int × bT)} (ap : E.length ≤ 900000) : aH ag 51 [jh E] (jh E) := by
 refine bl (f := 51) Tryz.func51 rfl rfl rfl rfl ?_;(refine eS ?_);refine Vs 4 rfl ?_;intro b ab;cases b with
 | true =>
  have az := jv (ab rfl);subst az;clear ab;(refine eS ?_)
  ((refine bd rfl (a8 rfl aL) ?_))
  exact PD 5
 | false =>
  clear ab;have z0 : 0 + E.length = E.length := je _;(repeat first | (with_reducible apply KB); rfl; rfl | (with_reducible apply Kq); (iterate 3 rfl); (exact js (by omega)); (omega); (assumption); (rfl); rfl | refine eA ?_)
  ((refine bd rfl (a8 rfl aL) ?_))
  exact ah.aS.refl _
section
variable {P : Program} {f : FuncId} {args : List ah} {cs : List AC} {R0 : aI} {Q : ah → List AC → aI → Prop}
theorem da.at (k : Nat) (h : da P f (rr :: args) (cG 1000 cs) R0 (oq 1000 Q)) (eg : args.all ah.aY = true) (al : cs.all AC.aY = true) (an : ∀ bW ds ay, Q bW ds ay → bW.aY = true ∧ ds.all AC.aY = true) : da P f (.w (.one (.own k 0)) :: args) (cG k cs) R0 (oq k Q) := by
 have h1 := h.aX (mO 1000 k) (bV := fun j => j) (iu := fun j => j) (fun _ => rfl) (fun _ => rfl)
 have aF : (ah.w (.one (.own 1000 0)) :: args).map (ah.aX (swp 1000 k)) = .w (.one (.own k 0)) :: args := by
  have aP : args.map (ah.aX (swp 1000 k)) = args := by
   conv => rhs; rw [← List.map_id args]
   exact o5 fun x aa => tY (b6.1 eg x aa)
  rw [kG, aP];show ah.w (.one (.own (swp 1000 k 1000) 0)) :: args = _;rw [show swp 1000 k 1000 = k by unfold swp; simp]
 rw [aF, vi al] at h1;refine ⟨fun U ad W vs cI cD cK => (h1.call U ad W vs cI cD cK).mono ?_⟩;rintro cq bf ⟨v, r, aG, ay, a7, cw, c0, ⟨cx, m1, bh, ⟨ds, rfl, ts⟩, rfl, rfl, rfl⟩, l5⟩;obtain ⟨c1, c2⟩ := an _ _ _ ts;rw [vi c2, tY c1] at l5;exact ⟨v, cx, cG k ds, bh, a7, cw, c0, ⟨ds, rfl, ts⟩, l5⟩
end
def cf (k : Int) : Nat := (if k < 0 then 0 else if 28 < k then 28 else k).toNat
def dI (n : Int) : Nat := (lE n).toNat
theorem IL (n : Int) : ((dI n : Nat) : Int) = lE n := by unfold dI lE; (repeat split) <;> omega
theorem RA (n : Int) : 1 ≤ dI n ∧ dI n ≤ 1024 := by unfold dI lE; (repeat split) <;> omega
theorem ae9 (k : Int) : ((cf k : Nat) : Int) = if 28 < (if 0 > k then 0 else k) then 28 else (if 0 > k then 0 else k) := by unfold cf; (repeat split) <;> omega
theorem IJ (k : Int) : cf k ≤ 28 := by unfold cf; (repeat split) <;> omega
theorem II {E : List (Int × bT)} {k n : Int} (h : gK (E.map Prod.snd) = true) (ak : E.length ≤ 300) : hO E (cf k) (dI n) := ⟨IJ k, h, ak, (RA n).1, (RA n).2⟩
abbrev jO : Value := .slice none 0 0
theorem PC {b : Nat} {S : e0} {q : bE} : dT b S jO jO jO [] [] [] = bG (bG (bG (bG (bG gh 1 ⟨36, 2, jO, 0, []⟩) 2 ⟨36, 2, jO, 0, []⟩) 3 ⟨34, 2, jO, 0, []⟩) 0 q) 0 (jb (eb b) S) := by
 funext i
 match i with
 | 0 => rfl
 | 1 => rfl
 | 2 => rfl
 | 3 => rfl
 | i + 4 => rfl
theorem aan {E : List (Int × bT)} {k n : Int} (ak : E.length ≤ 300) (h : gK (E.map Prod.snd) = true) : da ag 28 [jh E, aE k, aE n] b3 gh fun bW aG ay => ∃ cs, bW = .w (.one (.own 24 0)) ∧ aG = cG 24 cs ∧ dy E (cf k) (dI n) (fu (bp E (cf k) (dI n))) cs ay := by
 have aW := adr (E := E) (by omega);rw [h] at aW;have bH := aam n;have eF := ady (E := E) (by omega);have hT := ae9 k
 by_cases az : E = []
 ·subst az;refine dt (f := 28) Tryz.func28 rfl (dl rfl) (by exact nQ) ?_;refine mb 1 36 2 rfl ?_;refine mb 2 36 2 rfl ?_;refine mb 3 34 2 rfl ?_;(refine nF ?_);refine NR 0 rfl rfl rfl rfl bH rfl rfl (fun p S jJ => ?_);obtain ⟨b, rfl, hS⟩ := jJ;rw [← IL n] at hS;have la := Ox _ _ _ _ hS (by decide);(refine nF ?_);refine zf 0 rfl rfl rfl rfl la rfl rfl rfl (fun v dh h => ?_);obtain ⟨rfl, fO⟩ := h;(refine ba ?_);have nI := da.at 24 (HE (E := []) (k := (cf k : Int)) (rm := (dI n : Int)) (ph := 0) (I := 0) (J := 0) (T := 0) (dirty := false) (hv := jO) (fv := jO) (cv := jO) (b := b) (lk := .c jO) rfl 4) rfl rfl (fun bW ds ay h => by obtain ⟨rfl, rfl, _⟩ := h; exact ⟨rfl, rfl⟩);rw [← hT];refine kb 24 rfl rfl rfl rfl nI rfl rfl rfl rfl rfl ?_;(refine ba ?_)
  ((refine Ch 24 rfl (a8 rfl aL) rfl (bz.of_eq PC) rfl rfl ?_))
  exact ⟨_, rfl, rfl, jO, jO, jO, b, dh, .c jO, fO, rfl, fun h => (by cases h), rfl, rfl⟩
 ·have e7 : ¬ (E.length : Int) = 0 := fun aR => az (jv (by omega));refine dt (f := 28) Tryz.func28 rfl (dl rfl) (by exact nQ) ?_;refine mb 1 36 2 rfl ?_;refine mb 2 36 2 rfl ?_;refine mb 3 34 2 rfl ?_;(refine nF ?_);refine NR 0 rfl rfl rfl rfl bH rfl rfl (fun p S jJ => ?_);obtain ⟨b, rfl, hS⟩ := jJ;rw [← IL n] at hS;have la := Ox _ _ _ _ hS (by decide);(refine nF ?_);refine zf 0 rfl rfl rfl rfl la rfl rfl rfl (fun v dh h => ?_);obtain ⟨rfl, fO⟩ := h;(refine ba ?_);rw [← hT]
  ((refine Ch 24 rfl (a8 rfl aL) rfl (bz.of_eq PC) rfl rfl ?_))
  refine ⟨_, rfl, rfl, jO, jO, jO, b, dh, .c jO, fO, rfl, ?_, ?_, rfl⟩
  ·unfold fu;rw [if_neg (by rw [hO.n]; omega)];intro h; cases h
  ·unfold fu;rw [if_neg (by rw [hO.n]; omega)]; rfl
end Go.Proofs.YtbcecodakfejaaaGreat
