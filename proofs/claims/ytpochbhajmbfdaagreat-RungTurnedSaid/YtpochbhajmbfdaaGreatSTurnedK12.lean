/-
  My own texts, without what this claim does not need. My own text.
-/
import Derived.Test.YtpochbhajmbfdaaGreatSTurnedK11
set_option maxRecDepth 100000
set_option maxHeartbeats 64000000
set_option linter.unusedVariables false
set_option linter.unusedSimpArgs false
set_option linter.unusedSectionVars false
open Go.Proofs.Tryz renaming prog → aj
namespace Go.Proofs.YtpochbhajmbfdaaGreat
open Go.RowKit
open bt
section
variable {P : Program} {bq : e8} {b0 A : Nat → Prop} {R : aL} {s : aE} {a : Act} {w : World} {ad : Nat → Nat} {c : Code} {Q : Exit → aL → aE → Prop}
theorem eJ.afj {cb : Nat → Nat} (ga : ∀ i j, cb i = cb j → i = j) (h : eJ bq b0 R s a w A ad) : eJ bq b0 (fun i => R (cb i)) s a w A ad :=
 ⟨h.up, h.sub, h.rel, h.pg, h.below, fun i r hi => h.rows (cb i) r hi, fun i j r q hi af fI g ax => h.apart (cb i) (cb j) r q hi af (fun e => fI (ga i j e)) g ax, fun i r g hi ax => h.hot (cb i) r g hi ax, h.ku⟩
theorem af3 (i j : Nat) (h : fO P c Q (fun x => R (swp i j x)) s) : fO P c Q R s := fun ok bq b0 a w ⟨A, ad, ay⟩ => h ok bq b0 a w ⟨A, ad, ay.afj fun x y e => by rw [← nk i j x, e, nk]⟩
end
theorem Ko {A B ds : List AC} {off : Nat} (h : A.length = off) : eO (A ++ B) off ds = A ++ ds ++ B.drop ds.length := by
 unfold eO;rw [← h, List.take_left, List.drop_append, u4 (by omega), Nat.add_sub_cancel_left]; simp
def K6 (E : List (Int × bV)) (r rm : Nat) (s : bt.aN aq) (cs : List AC) (R : aL) : Prop := ∃ (hv fv cv : Value) (b : Nat) (S : ff) (lk : AC), tI rm s.hot (eg b) S ∧ lk.bd = true ∧ cs = eK E r rm s.ph s.I s.J s.T s.dirty hv fv cv b lk ∧ R = dT b S hv fv cv s.hot s.fnd s.ch
def K4 (E : List (Int × bV)) (r rm : Nat) (f : FuncId) (args : List ai) (s : bt.aN aq) (v : ai) (s' : bt.aN aq) : Prop :=
 ∀ cs R, K6 E r rm s cs R → dk aj f (rU :: args) (cO 1000 cs) R (oM 1000 fun ck au aC => ck = v ∧ dC E r rm s' au aC)
section
variable {P : Program} {R : aL} {s : aE} {ops : Array Oper} {dr : Option (List Nat)} {ty : Nat} {pos : String} {after : Array Edge} {guard : Option (Nat × Bool)} {K : aL → aE → Prop} {rest : List Oper}
theorem Om {E : List (Int × bV)} {r rm : Nat} {eH s1 : bt.aN aq} {v : ai} {dst : Option Nat} {f : FuncId} {g : Operand} {aS : Array TypeId} {l : List Operand} {args : List ai} {cs : List AC} [F8 : Enters aj f] (hw : want ops ⟨dst, .call ⟨.value g, l.toArray, aS⟩, ty, pos, after, guard⟩ s = some true) (hm : dE dr ⟨dst, .call ⟨.value g, l.toArray, aS⟩, ty, pos, after, guard⟩ = true)
  (ax : s.look g = some (aU (.func (.func f) #[] #[]))) (aI : l.map s.look = (rU :: args).map some) (ae : s.mem 1000 = some cs) (hZ : pD dr 1000 = true) (et : args.all ai.bd = true) (hd : li dst s.n = true) (hp : K4 E r rm f args eH v s1) (bp : K6 E r rm eH cs R)
  (h : ∀ au aC, dC E r rm s1 au aC → cQ aj ops dr K rest aC ((s.ep 1000 au).put dst v)) : cQ aj ops dr K (⟨dst, .call ⟨.value g, l.toArray, aS⟩, ty, pos, after, guard⟩ :: rest) R s := by
 have ak : cs.all AC.bd = true := by
  obtain ⟨hv, fv, cv, b, S, lk, _, cY, rfl, _⟩ := bp;simp only [kF, nh, cY]; rfl
 refine D7 1000 hw hm ax aI (hp cs R bp) ae hZ (bL.refl _) ak et hd ?_;rintro _ au aC ⟨rfl, ar⟩
 have : b9 aC R = aC := by
  obtain ⟨_, _, _, _, _, _, _, _, _, rfl⟩ := bp;obtain ⟨_, _, _, _, _, _, _, _, _, _, rfl⟩ := ar;exact RK
 rw [this];exact h au aC ar
end
section
variable {E : List (Int × bV)} {r rm : Nat}
theorem O6 {s : bt.aN aq} (hd : s.dirty = false) (aw : s.fnd = []) (ak : kM s.ch) (aJ : 0 < s.ch.length) : K4 E r rm 177 [] s l7 (lF (eI s 2 0 0)) := by
 have fo := O5 (E := E) (r := r) (rm := rm) (s := eI s 2 0 0) hd rfl ak aJ (eF _) rfl;obtain ⟨ph, I, J, T, dirty, hot, fnd, ch⟩ := s;obtain rfl : dirty = false := hd;obtain rfl : fnd = [] := aw;rintro cs R ⟨hv, fv, cv, b, S, lk, hS, cY, rfl, rfl⟩;have di : (eK E r rm ph I J T false hv fv cv b lk).all AC.bd = true := by simp only [kF, nh, cY]; rfl
 have aP := Es (E := E) (k := r) (rm := rm) (ph := ph) (I := I) (J := J) (T := T) (dirty := false) (hv := hv) (fv := fv) (cv := cv) (b := b) cY 2 0;refine dv (f := 177) Tryz.func177 rfl (du rfl) (by exact eB rfl) ?_;(repeat first | (with_reducible first | apply bb | apply a8) | (with_reducible apply aO); exact rfl; (repeat first | (with_reducible apply az); exact rfl); (with_reducible apply aA));refine ky 1000 rfl rfl rfl rfl aP rfl rfl di rfl rfl ?_;(repeat first | (with_reducible first | apply aV | apply a8 | apply aX) | (with_reducible apply aO); exact rfl; (repeat first | (with_reducible apply az); exact rfl); (with_reducible apply aA));refine iz rfl rfl rfl rfl rfl rfl rfl rfl fo ⟨hv, fv, cv, b, S, lk, hS, cY, fun h => (by cases h), rfl, rfl⟩ (fun au aC cp => ?_);(repeat first | with_reducible apply aX);obtain ⟨cg, dh, c8, bR, dp, ht, fH, hI, iO, rfl, rfl⟩ := id cp
 ((refine eW rfl bf rfl (bL.refl _) cp.closed rfl ft ?_))
 exact ⟨_, rfl, rfl, cp⟩
theorem O3 {s : bt.aN aq} (aw : s.fnd = []) (ak : kM s.ch) (aJ : 0 < s.ch.length) : gz E r rm 130 [] s l7 (l6 s) := by
 unfold l6
 by_cases hd : s.dirty = true
 ·rw [if_pos hd];have fo := O6 (E := E) (r := r) (rm := rm) (s := { s with dirty := false }) rfl aw ak aJ;obtain ⟨ph, I, J, T, dirty, hot, fnd, ch⟩ := s;obtain rfl : dirty = true := hd;obtain rfl : fnd = [] := aw;rintro cs R ⟨hv, fv, cv, b, S, lk, hS, cY, gu, rfl, rfl⟩;simp only at fo ⊢;refine dv (f := 130) Tryz.func130 rfl (du rfl) (by exact eB rfl) ?_;(repeat first | (with_reducible first | apply bb | apply aV | apply a8 | apply aX | apply dc) | (with_reducible apply c4); exact rfl; (exact rfl) | (with_reducible apply aO); exact rfl; (repeat first | (with_reducible apply az); exact rfl | (with_reducible apply df); (iterate 3 exact rfl)); (with_reducible apply aA));refine Om rfl rfl rfl rfl rfl rfl rfl rfl fo ⟨hv, fv, cv, b, S, .c (.slice none 0 0), hS, rfl, rfl, rfl⟩ (fun au aC cp => ?_);(repeat first | with_reducible apply aX);obtain ⟨cg, dh, c8, bR, dp, ht, fH, hI, iO, rfl, rfl⟩ := id cp
  ((refine eW rfl bf rfl (bL.refl _) cp.closed rfl ft ?_))
  exact ⟨_, rfl, rfl, cp⟩
 ·have hd : s.dirty = false := by cases h : s.dirty <;> simp_all
  rw [if_neg (by rw [hd]; decide)];exact O4 hd aw
theorem acR (p q : aq) : fr p q = (wG p q, wF p q) := by
 unfold fr wG wF; split <;> rfl
def TG (E : List (Int × bV)) (r rm : Nat) (s : bt.aN aq) (hv fv cv v : Value) (b : Nat) (S : ff) (lk : AC) (hM : List (List aq × List Int)) (Z : List AC) (n : Nat) (R : aL) (aS : List (Nat × ai)) (bw : List (Nat × List AC)) : Prop :=
 ∃ (i : Nat) (ii : Int), i ≤ E.length ∧ n = E.length - i ∧ ii = i ∧ R = bJ (dT b S hv fv cv s.hot [] s.ch) 4 ⟨53, 2, v, E.length, eQ (hM.take i) ++ Z.drop (2 * i)⟩ ∧ aS = [(0, rU), (2, aU v), (11, aR E.length), (12, aR ii)] ∧ bw = [(1000, eK E r rm s.ph s.I s.J s.T false hv fv cv b lk)]
theorem O2 {s : bt.aN aq} (al : r ≤ 28) (j1 : fK (E.map Prod.snd) = true) (ap : E.length ≤ 300) (aJ : 0 < E.length) (hd : s.dirty = false) (aw : s.fnd = []) : gz E r rm 121 [] s l7 (kZ (bx E r rm) s) := by
 rintro cs R ⟨hv, fv, cv, b, S, lk, hS, cY, gu, rfl, rfl⟩;rw [hd, aw];have di : (eK E r rm s.ph s.I s.J s.T false hv fv cv b lk).all AC.bd = true := by simp only [kF, nh, cY]; rfl
 obtain ⟨hM, rq⟩ : ∃ hM, hM = (List.range (bx E r rm).n).map fun k => fr ((bx E r rm).P k) ((bx E r rm).Q k) := ⟨_, rfl⟩;have aD : hM.length = E.length := by rw [rq]; simp [mx]
 have Y1 : kM hM := by
  refine ⟨by omega, fun c ak => ?_⟩;rw [rq] at ak;obtain ⟨k, _, rfl⟩ := iW.1 ak;unfold fr; split
  ·exact ⟨rfl, Nat.le_add_left 1 1099⟩
  ·exact ⟨rfl, Nat.le_add_left 2 1098⟩
 have fo := O6 (E := E) (r := r) (rm := rm) (s := { s with ch := hM }) hd aw Y1 (by show 0 < hM.length; omega);rw [show lF (eI ({ s with ch := hM } : bt.aN aq) 2 0 0) = kZ (bx E r rm) s by rw [rq]; rfl] at fo
 have fq : ∀ i o (a : bV), E[i]? = some (o, a) → hM[i]? = some (fr (k1 r a.1) (k1 r a.2)) := fun i o a h => by
  have hi := (bP.1 h).1;have e : (E.map Prod.snd).getD i jY = a := by rw [rG, eG, h]; rfl
  rw [rq, eG, wL (by simpa [mx] using hi)];show some (fr (k1 r ((E.map Prod.snd).getD i jY).1) (k1 r ((E.map Prod.snd).getD i jY).2)) = _;rw [e]
 have ca : ∀ i o (a : bV), E[i]? = some (o, a) → gd a.1 = true ∧ gd a.2 = true := fun i o a h => by
  have := rA j1 i;rw [rG, eG, h] at this;exact this
 have DG : (ir E.length 2 [.slice none 0 0, .slice none 0 0]).length = 2 * E.length := by unfold ir; simp; omega
 clear rq;refine dv (f := 121) Tryz.func121 rfl (du rfl) (by exact eB rfl) ?_;(repeat first | (with_reducible first | apply bb | apply a8) | (with_reducible apply aO); exact rfl; (repeat first | (with_reducible apply az); exact rfl | (with_reducible apply df); (iterate 3 exact rfl) | (with_reducible apply c6); (iterate 3 exact rfl)); (with_reducible apply aA));refine As (l := E.length) (c' := E.length) 4 rfl rfl rfl rfl (eb _) rfl rfl ?h2 (ka (by omega)) rfl (fun v ic => ?_)
 case h2 => omega
 (repeat first | (with_reducible first | apply bb | apply aV | apply a8 | apply aX) | (with_reducible apply aO); exact rfl; (repeat first | (with_reducible apply az); exact rfl); (with_reducible apply aA));generalize ir E.length 2 [.slice none 0 0, .slice none 0 0] = Z at *;(repeat first | (with_reducible first | apply aV | apply aX | apply fu) | (with_reducible apply aO); exact rfl; (repeat first | (with_reducible apply az); exact rfl); (with_reducible apply aA) | (with_reducible apply oj 4); (iterate 4 exact rfl); kernel_rfl; exact rfl);refine k7 32 (TG E r rm s hv fv cv v b S lk hM Z) E.length (bJ (dT b S hv fv cv s.hot [] s.ch) 4 ⟨53, 2, v, E.length, Z⟩) _ [(1000, eK E r rm s.ph s.I s.J s.T false hv fv cv b lk)] ⟨0, 0, eF _, rfl, rfl, rfl, rfl, rfl⟩ (bL.refl _) rfl ⟨rfl, rfl, rfl, rfl, trivial⟩ ⟨rfl, trivial⟩ ?_ ?_
 ·cases lk <;> first | rfl | cases cY
 rintro n R aS bw ⟨i, ii, hi, rfl, gi, rfl, rfl, rfl⟩ dK;clear dK
 have aF : (eQ (hM.take i)).length = 2 * i := by
  have := Du (f := p0) (z := 2) (fun _ => rfl) (hM.take i);rw [eu] at this;unfold eQ; rw [this]; omega
 by_cases an : i < E.length
 ·have q2 : ii < (E.length : Int) := by omega
  have cr : 0 ≤ ii := by omega
  have eE : 0 < E.length := by omega
  obtain ⟨o, ⟨p1, p2⟩, ⟨cH, cC⟩, g1⟩ : ∃ o p q, E[i]? = some (o, p, q) := ⟨_, _, _, cj an⟩;obtain ⟨fT, fC⟩ := ca _ _ _ g1;have g2 := fq _ _ _ g1;have aP := I3 (E := E) (k := r) (rm := rm) (ph := s.ph) (I := s.I) (J := s.J) (T := s.T) (dirty := false) (hv := hv) (fv := fv) (cv := cv) (b := b) al rfl cY (by omega) g1 fT fC;rw [← gi] at aP;have b6 := aa5 (cI p1 r) (cI p2 r) (cI cH r) (cI cC r);have aM : fr (k1 r (p1, p2)) (k1 r (cH, cC)) = (wG (cI p1 r, cI p2 r) (cI cH r, cI cC r), wF (cI p1 r, cI p2 r) (cI cH r, cI cC r)) := acR _ _;rw [aM] at g2;clear aM fT fC g1;generalize cI p1 r = a1 at *;generalize cI p2 r = a2 at *;generalize cI cH r = a3 at *;generalize cI cC r = a4 at *;generalize wG (a1, a2) (a3, a4) = V at *;generalize wF (a1, a2) (a3, a4) = D at *;have aG : ii.toNat * 2 = 2 * i := by omega
  have Ir : ii.toNat * 2 + 2 ≤ (eQ (hM.take i) ++ Z.drop (2 * i)).length := by rw [cX, aF, iC, DG]; omega
  have cD : eO (eQ (hM.take i) ++ Z.drop (2 * i)) (ii.toNat * 2) [.p (cx 2 V.length (b8 V)), .p (cx 1 D.length (cy D))] = eQ (hM.take (i + 1)) ++ Z.drop (2 * (i + 1)) := by
   rw [Ko (by rw [aF, aG]), List.drop_drop];congr 1;have bh : i < hM.length := by omega
   rw [nO bh, show hM[i] = (V, D) from mD ((cj bh).symm.trans g2)];simp [eQ, p0]
  (repeat first | (with_reducible first | apply bb | apply aV | apply a8 | apply aX | apply dc | apply fu) | (with_reducible apply eo); exact rfl; (exact bF (by omega)) | (with_reducible apply aO); exact rfl; (repeat first | (with_reducible apply az); exact rfl); (with_reducible apply aA));refine ky 1000 rfl rfl rfl rfl aP rfl rfl di rfl rfl ?_;(repeat first | (with_reducible apply aO); exact rfl; (repeat first | (with_reducible apply az); exact rfl | refine dP rfl rfl rfl rfl (by (exact b6)) rfl ?_); (with_reducible apply aA) | (with_reducible apply j9 4); (iterate 4 exact rfl); (omega); (assumption); exact rfl; kernel_rfl; exact rfl);refine Av 4 rfl rfl rfl rfl eE rfl rfl Ir rfl ?_;(repeat first | (with_reducible first | apply aV | apply a8 | apply aX | apply kg) | (with_reducible apply aO); exact rfl; (repeat first | (with_reducible apply az); exact rfl | (with_reducible apply fh); (iterate 3 exact rfl); (exact cZ (by omega)); exact rfl); (with_reducible apply aA));refine ⟨E.length - (i + 1), bJ (dT b S hv fv cv s.hot [] s.ch) 4 ⟨53, 2, v, E.length, eQ (hM.take (i + 1)) ++ Z.drop (2 * (i + 1))⟩, _, [(1000, eK E r rm s.ph s.I s.J s.T false hv fv cv b lk)], by omega, ⟨i + 1, ii + 1, by omega, rfl, by omega, rfl, rfl, rfl⟩, fun k q ae => ?_, rfl, ⟨rfl, rfl, rfl, rfl, trivial⟩, ⟨rfl, trivial⟩, ?_⟩
  ·rw [← cD] at ae
   by_cases hU : k = 4
   ·subst hU; exact ae
   ·rw [cl _ _ hU] at ae ⊢;rw [cl _ _ hU]; exact ae
  ·cases lk <;> first | rfl | cases cY
 ·have q2 : ¬ ii < (E.length : Int) := by omega
  have dl : hM.take i = hM := hQ (by omega);have aG : Z.drop (2 * i) = [] := List.drop_eq_nil_of_le (by omega);rw [dl, aG, qz];refine af3 3 4 ?_;refine wR (dT b S hv fv v s.hot [] hM) (fun k q ae => ?_) ?_
  ·match k with
   | 0 => exact ae
   | 1 => exact ae
   | 2 => exact ae
   | 3 => rw [← aD]; exact ae
   | k + 4 => cases ae
  (repeat first | (with_reducible first | apply bb | apply aV | apply a8 | apply aX | apply jN | apply jS | apply jR) | (with_reducible apply c4); exact rfl; (exact b5 (by omega)) | (with_reducible apply aO); exact rfl; (repeat first | (with_reducible apply az); exact rfl | (with_reducible apply df); (iterate 3 exact rfl)); (with_reducible apply aA));refine Om rfl rfl rfl rfl rfl rfl rfl rfl fo ⟨hv, fv, v, b, S, lk, hS, cY, by rw [hd], by rw [aw]⟩ (fun au aC cp => ?_);(repeat first | with_reducible apply aX);obtain ⟨cg, dh, c8, bR, dp, ht, fH, hI, iO, rfl, rfl⟩ := id cp
  ((refine eW rfl bf rfl (bL.refl _) cp.closed rfl ft ?_))
  exact ⟨_, rfl, rfl, cp⟩
end
section
variable {E : List (Int × bV)} {r rm : Nat}
theorem CN {n : Nat} (h : n ≠ 5) : Nat.beq n 5 = false := by
 cases ar : Nat.beq n 5 with
 | false => rfl
 | true => exact absurd (hP ar) h
theorem DO {o : bN aq} {s : bt.aN aq} {q : aq} (h : s.fnd = []) : (dt o s q).fnd = [] := by
 unfold dt; split
 ·exact h
 ·split
  ·exact h
  ·rfl
theorem DN {o : bN aq} {s : bt.aN aq} {q : aq} : (dt o s q).dirty = s.dirty ∧ (dt o s q).ch = s.ch ∧ (dt o s q).hot.length ≤ s.hot.length + 1 := by
 unfold dt; split
 ·exact ⟨rfl, rfl, Nat.le_succ _⟩
 ·split
  ·exact ⟨rfl, rfl, by simp⟩
  ·exact ⟨rfl, rfl, Nat.le_succ _⟩
theorem DP {o : bN aq} {s : bt.aN aq} {q : aq} (h : (dt o s q).ph ≠ 5) : (dt o s q).ph = s.ph ∧ (dt o s q).I = s.I ∧ (dt o s q).J = s.J ∧ (dt o s q).T = s.T := by
 revert h
 unfold dt; split
 ·exact fun _ => ⟨rfl, rfl, rfl, rfl⟩
 ·split
  ·exact fun _ => ⟨rfl, rfl, rfl, rfl⟩
  ·exact fun h => absurd rfl h
theorem abm {s : bt.aN aq} (al : r ≤ 28) (j1 : fK (E.map Prod.snd) = true) (ap : E.length ≤ 300) (aJ : 0 < E.length) (hd : s.dirty = false) (aw : s.fnd = []) : gz E r rm 117 [] s l7 (if E.length < 2 then kZ (bx E r rm) s else eI s 1 0 1) := by
 have fo := O2 (E := E) (r := r) (rm := rm) (s := eI s 1 0 1) al j1 ap aJ hd rfl;rw [show kZ (bx E r rm) (eI s 1 0 1) = kZ (bx E r rm) s from rfl] at fo;obtain ⟨ph, I, J, T, dirty, hot, fnd, ch⟩ := s;obtain rfl : dirty = false := hd;obtain rfl : fnd = [] := aw;rintro cs R ⟨hv, fv, cv, b, S, lk, hS, cY, gu, rfl, rfl⟩;have di : (eK E r rm ph I J T false hv fv cv b lk).all AC.bd = true := by simp only [kF, nh, cY]; rfl
 have YM : (eK E r rm 1 0 1 0 false hv fv cv b lk).all AC.bd = true := by simp only [kF, nh, cY]; rfl
 have aP := Es (E := E) (k := r) (rm := rm) (ph := ph) (I := I) (J := J) (T := T) (dirty := false) (hv := hv) (fv := fv) (cv := cv) (b := b) cY 1 1
 by_cases h2 : E.length < 2
 ·rw [if_pos h2];have xP : (1 : Int) ≥ (E.length : Int) := by omega
  refine dv (f := 117) Tryz.func117 rfl (du rfl) (by exact eB rfl) ?_;(repeat first | (with_reducible first | apply bb | apply a8) | (with_reducible apply aO); exact rfl; (repeat first | (with_reducible apply az); exact rfl); (with_reducible apply aA));refine ky 1000 rfl rfl rfl rfl aP rfl rfl di rfl rfl ?_;(repeat first | (with_reducible apply eD); kernel_rfl | (with_reducible apply dU (id := 1) [0,1,2,3,4,5,6,7,8,9,10]); kernel_rfl; kernel_rfl; exact rfl | (with_reducible first | apply bb | apply aV | apply a8 | apply aX) | (with_reducible apply eo); exact rfl; (exact bF (by omega)) | (with_reducible apply aO); exact rfl; (repeat first | (with_reducible apply az); exact rfl | (with_reducible apply df); (iterate 3 exact rfl) | (with_reducible apply c6); (iterate 3 exact rfl)); (with_reducible apply aA));refine iz rfl rfl rfl rfl rfl rfl rfl rfl fo ⟨hv, fv, cv, b, S, lk, hS, cY, fun h => (by cases h), rfl, rfl⟩ (fun au aC cp => ?_);(repeat first | with_reducible apply aX);obtain ⟨cg, dh, c8, bR, dp, ht, fH, hI, iO, rfl, rfl⟩ := id cp
  ((refine eW rfl bf rfl (bL.refl _) cp.closed rfl ft ?_))
  exact ⟨_, rfl, rfl, cp⟩
 ·rw [if_neg h2];have xP : ¬ (1 : Int) ≥ (E.length : Int) := by omega
  refine dv (f := 117) Tryz.func117 rfl (du rfl) (by exact eB rfl) ?_;(repeat first | (with_reducible first | apply bb | apply a8) | (with_reducible apply aO); exact rfl; (repeat first | (with_reducible apply az); exact rfl); (with_reducible apply aA));refine ky 1000 rfl rfl rfl rfl aP rfl rfl di rfl rfl ?_;(repeat first | (with_reducible apply eD); kernel_rfl | (with_reducible apply dU (id := 1) [0,1,2,3,4,5,6,7,8,9,10]); kernel_rfl; kernel_rfl; exact rfl | (with_reducible first | apply bb | apply aV | apply aX | apply dc) | (with_reducible apply c4); exact rfl; (exact b5 (by omega)) | (with_reducible apply aO); exact rfl; (repeat first | (with_reducible apply az); exact rfl | (with_reducible apply df); (iterate 3 exact rfl) | (with_reducible apply c6); (iterate 3 exact rfl)); (with_reducible apply aA))
  ((refine eW rfl bf rfl (bL.refl _) YM rfl ft ?_))
  exact ⟨_, rfl, rfl, hv, fv, cv, b, S, lk, hS, cY, fun h => (by cases h), rfl, rfl⟩
theorem G9 {i : Nat} {o : Int} {a : bV} (h : E[i]? = some (o, a)) : (E.map Prod.snd).getD i jY = a := by rw [rG, eG, h]; rfl
theorem abh {s : bt.aN aq} (al : r ≤ 28) (j1 : fK (E.map Prod.snd) = true) (ap : E.length ≤ 300) (bp : s.I < E.length) (hd : s.dirty = false) (aw : s.fnd = []) (aW : s.hot.length ≤ 1024) (hb : s.ph = 0) : gz E r rm 65 [] s l7 (qb (bx E r rm) s) := by
 obtain ⟨o, ⟨p1, p2⟩, ⟨cH, cC⟩, g1⟩ : ∃ o p q, E[s.I]? = some (o, p, q) := ⟨_, _, _, cj bp⟩;have iM := G9 g1;have aD := rA j1 s.I;rw [iM] at aD;have WX : (bx E r rm).P s.I = (cI p1 r, cI p2 r) := by show k1 r ((E.map Prod.snd).getD s.I jY).1 = _; rw [iM]; rfl
 have WY : (bx E r rm).Q s.I = (cI cH r, cI cC r) := by show k1 r ((E.map Prod.snd).getD s.I jY).2 = _; rw [iM]; rfl
 have Db : (bx E r rm).n = E.length := jK ..;have H1 := I4 (E := E) (r := r) (rm := rm) (s := s) (x := cI p1 r) (y := cI p2 r) (by omega) aw (by omega);unfold qb;rw [WX, WY, Db];have sI := DN (o := bx E r rm) (s := s) (q := (cI p1 r, cI p2 r));have xV := DO (o := bx E r rm) (q := (cI p1 r, cI p2 r)) aw;have wb := DP (o := bx E r rm) (s := s) (q := (cI p1 r, cI p2 r));generalize o7 : dt (bx E r rm) s (cI p1 r, cI p2 r) = s1 at *
 by_cases q1 : s1.ph = 5
 ·rw [if_pos q1];rw [q1] at H1;rintro cs R j2;obtain ⟨hv, fv, cv, b, S, lk, hS, cY, gu, rfl, rfl⟩ := id j2;have di := j2.closed;have aP := I3 (E := E) (k := r) (rm := rm) (ph := s.ph) (I := s.I) (J := s.J) (T := s.T) (dirty := s.dirty) (hv := hv) (fv := fv) (cv := cv) (b := b) al rfl cY (by omega) g1 aD.1 aD.2;clear o7;generalize cI p1 r = a1 at *;generalize cI p2 r = a2 at *;generalize cI cH r = a3 at *;generalize cI cC r = a4 at *;refine dv (f := 65) Tryz.func65 rfl (du rfl) (by exact eB rfl) ?_;(repeat first | (with_reducible first | apply bb | apply a8) | (with_reducible apply aO); exact rfl; (repeat first | (with_reducible apply az); exact rfl | (with_reducible apply df); (iterate 3 exact rfl)); (with_reducible apply aA));refine ky 1000 rfl rfl rfl rfl aP rfl rfl di rfl rfl ?_;(repeat first | (with_reducible first | apply bb | apply aV | apply a8 | apply aX) | (with_reducible apply aO); exact rfl; (repeat first | (with_reducible apply az); exact rfl); (with_reducible apply aA));refine iz rfl rfl rfl rfl rfl rfl rfl rfl H1 j2 (fun au aC cp => ?_);(repeat first | (with_reducible first | apply aV | apply aX | apply dM | apply kH) | (with_reducible apply eo); exact rfl; (exact rfl) | (with_reducible apply aO); exact rfl; (repeat first | (with_reducible apply az); exact rfl); (with_reducible apply aA));obtain ⟨cg, dh, c8, bR, dp, ht, fH, hI, iO, rfl, rfl⟩ := id cp
  ((refine eW rfl bf rfl (bL.refl _) cp.closed rfl ft ?_))
  exact ⟨_, rfl, rfl, cp⟩
 ·rw [if_neg q1];obtain ⟨m1, m2, m3, m4⟩ := wb q1;rw [CN q1] at H1;have bZ := I4 (E := E) (r := r) (rm := rm) (s := s1) (x := cI cH r) (y := cI cC r) (by omega) xV q1;have sJ := DN (o := bx E r rm) (s := s1) (q := (cI cH r, cI cC r));have Zg := DO (o := bx E r rm) (q := (cI cH r, cI cC r)) xV;have Ag := DP (o := bx E r rm) (s := s1) (q := (cI cH r, cI cC r));generalize Ao : dt (bx E r rm) s1 (cI cH r, cI cC r) = s2 at *;have fp := abm (E := E) (r := r) (rm := rm) (s := { s2 with I := s2.I + 1 }) al j1 ap (by omega) (by show s2.dirty = false; rw [sJ.1, sI.1]; exact hd) Zg;rw [show kZ (bx E r rm) { s2 with I := s2.I + 1 } = kZ (bx E r rm) s2 from rfl, show eI ({ s2 with I := s2.I + 1 } : bt.aN aq) 1 0 1 = eI s2 1 0 1 from rfl] at fp;rintro cs R j2;obtain ⟨hv, fv, cv, b, S, lk, hS, cY, gu, rfl, rfl⟩ := id j2;have di := j2.closed;have aP := I3 (E := E) (k := r) (rm := rm) (ph := s.ph) (I := s.I) (J := s.J) (T := s.T) (dirty := s.dirty) (hv := hv) (fv := fv) (cv := cv) (b := b) al rfl cY (by omega) g1 aD.1 aD.2;clear o7 Ao
  by_cases q2 : s2.ph = 5
  ·rw [if_pos q2];rw [q2] at bZ;clear fp;generalize cI p1 r = a1 at *;generalize cI p2 r = a2 at *;generalize cI cH r = a3 at *;generalize cI cC r = a4 at *;refine dv (f := 65) Tryz.func65 rfl (du rfl) (by exact eB rfl) ?_;(repeat first | (with_reducible first | apply bb | apply a8) | (with_reducible apply aO); exact rfl; (repeat first | (with_reducible apply az); exact rfl | (with_reducible apply df); (iterate 3 exact rfl)); (with_reducible apply aA));refine ky 1000 rfl rfl rfl rfl aP rfl rfl di rfl rfl ?_;(repeat first | (with_reducible first | apply bb | apply aV | apply a8 | apply aX) | (with_reducible apply aO); exact rfl; (repeat first | (with_reducible apply az); exact rfl); (with_reducible apply aA));refine iz rfl rfl rfl rfl rfl rfl rfl rfl H1 j2 (fun au aC cp => ?_);(repeat first | (with_reducible apply aO); exact rfl; (repeat first | (with_reducible apply az); exact rfl); (with_reducible apply aA));refine iz rfl rfl rfl rfl rfl rfl rfl rfl bZ cp (fun au aC cp => ?_);(repeat first | (with_reducible first | apply aV | apply aX | apply dM | apply kH) | (with_reducible apply eo); exact rfl; (exact rfl) | (with_reducible apply aO); exact rfl; (repeat first | (with_reducible apply az); exact rfl); (with_reducible apply aA));obtain ⟨cg, dh, c8, bR, dp, ht, fH, hI, iO, rfl, rfl⟩ := id cp
   ((refine eW rfl bf rfl (bL.refl _) cp.closed rfl ft ?_))
   exact ⟨_, rfl, rfl, cp⟩
  ·rw [if_neg q2];rw [CN q2] at bZ;obtain ⟨m5, m6, m7, m8⟩ := Ag q2;have WW : s.I = s2.I := by omega
   generalize cI p1 r = a1 at *;generalize cI p2 r = a2 at *;generalize cI cH r = a3 at *;generalize cI cC r = a4 at *
   by_cases cr : s.I + 1 < E.length
   ·rw [if_pos cr, show ({ s2 with I := s.I + 1 } : bt.aN aq) = { s2 with I := s2.I + 1 } by rw [WW]];have ae3 : ¬ (s2.I : Int) + 1 = (E.length : Int) := by omega
    refine dv (f := 65) Tryz.func65 rfl (du rfl) (by exact eB rfl) ?_;(repeat first | (with_reducible first | apply bb | apply a8) | (with_reducible apply aO); exact rfl; (repeat first | (with_reducible apply az); exact rfl | (with_reducible apply df); (iterate 3 exact rfl)); (with_reducible apply aA));refine ky 1000 rfl rfl rfl rfl aP rfl rfl di rfl rfl ?_;(repeat first | (with_reducible first | apply bb | apply aV | apply a8 | apply aX) | (with_reducible apply aO); exact rfl; (repeat first | (with_reducible apply az); exact rfl); (with_reducible apply aA));refine iz rfl rfl rfl rfl rfl rfl rfl rfl H1 j2 (fun au aC cp => ?_);(repeat first | (with_reducible apply aO); exact rfl; (repeat first | (with_reducible apply az); exact rfl); (with_reducible apply aA));refine iz rfl rfl rfl rfl rfl rfl rfl rfl bZ cp (fun au aC HG => ?_);clear cp;obtain ⟨cg, dh, c8, bR, dp, ht, fH, hI, iO, rfl, rfl⟩ := id HG;have fX : dC E r rm { s2 with I := s2.I + 1 } (eK E r rm s2.ph ((s2.I : Int) + 1) s2.J s2.T s2.dirty cg dh c8 bR ht) (dT bR dp cg dh c8 s2.hot s2.fnd s2.ch) := ⟨cg, dh, c8, bR, dp, ht, fH, hI, iO, rfl, rfl⟩;(repeat first | (with_reducible apply eD); kernel_rfl | (with_reducible apply dU (id := 3) [0,1,2,3,4,5,6,7,8,9,10]); kernel_rfl; kernel_rfl; exact rfl | (with_reducible first | apply bb | apply aV | apply a8 | apply aX | apply dc) | (with_reducible apply c4); exact rfl; (first | exact b5 (by omega) | exact rfl) | (with_reducible apply aO); exact rfl; (repeat first | (with_reducible apply az); exact rfl | (with_reducible apply df); (iterate 3 exact rfl) | (with_reducible apply fh); (iterate 3 exact rfl); (exact cZ (by omega)); exact rfl | (with_reducible apply c6); (iterate 3 exact rfl)); (with_reducible apply aA))
    ((refine eW rfl bf rfl (bL.refl _) fX.closed rfl ft ?_))
    exact ⟨_, rfl, rfl, fX⟩
   ·rw [if_neg cr];have ae3 : (s2.I : Int) + 1 = (E.length : Int) := by omega
    refine dv (f := 65) Tryz.func65 rfl (du rfl) (by exact eB rfl) ?_;(repeat first | (with_reducible first | apply bb | apply a8) | (with_reducible apply aO); exact rfl; (repeat first | (with_reducible apply az); exact rfl | (with_reducible apply df); (iterate 3 exact rfl)); (with_reducible apply aA));refine ky 1000 rfl rfl rfl rfl aP rfl rfl di rfl rfl ?_;(repeat first | (with_reducible first | apply bb | apply aV | apply a8 | apply aX) | (with_reducible apply aO); exact rfl; (repeat first | (with_reducible apply az); exact rfl); (with_reducible apply aA));refine iz rfl rfl rfl rfl rfl rfl rfl rfl H1 j2 (fun au aC cp => ?_);(repeat first | (with_reducible apply aO); exact rfl; (repeat first | (with_reducible apply az); exact rfl); (with_reducible apply aA));refine iz rfl rfl rfl rfl rfl rfl rfl rfl bZ cp (fun au aC HG => ?_);clear cp;obtain ⟨cg, dh, c8, bR, dp, ht, fH, hI, iO, rfl, rfl⟩ := id HG;have fX : dC E r rm { s2 with I := s2.I + 1 } (eK E r rm s2.ph ((s2.I : Int) + 1) s2.J s2.T s2.dirty cg dh c8 bR ht) (dT bR dp cg dh c8 s2.hot s2.fnd s2.ch) := ⟨cg, dh, c8, bR, dp, ht, fH, hI, iO, rfl, rfl⟩;(repeat first | (with_reducible apply eD); kernel_rfl | (with_reducible apply dU (id := 3) [0,1,2,3,4,5,6,7,8,9,10]); kernel_rfl; kernel_rfl; exact rfl | (with_reducible first | apply bb | apply aV | apply a8 | apply aX | apply dc) | (with_reducible apply eo); exact rfl; (exact bF (by omega)) | (with_reducible apply c4); exact rfl; (exact rfl) | (with_reducible apply aO); exact rfl; (repeat first | (with_reducible apply az); exact rfl | (with_reducible apply df); (iterate 3 exact rfl) | (with_reducible apply fh); (iterate 3 exact rfl); (exact cZ (by omega)); exact rfl | (with_reducible apply c6); (iterate 3 exact rfl)); (with_reducible apply aA));refine iz rfl rfl rfl rfl rfl rfl rfl rfl fp fX (fun au aC lT => ?_);(repeat first | with_reducible apply aX);obtain ⟨Ec, Dw, C5, dQ, vr, EA, DF, DX, DW, rfl, rfl⟩ := id lT
    ((refine eW rfl bf rfl (bL.refl _) lT.closed rfl ft ?_))
    exact ⟨_, rfl, rfl, lT⟩
end
section
variable {E : List (Int × bV)} {r rm : Nat}
theorem Zb {o : bN aq} {s : bt.aN aq} {q : Option aq} (h : s.fnd = []) : (kv o s q).fnd = [] := by
 cases q with
 | none => exact h
 | some x => exact DO h
theorem Zd {o : bN aq} {s : bt.aN aq} {q : Option aq} : (kv o s q).dirty = s.dirty ∧ (kv o s q).ch = s.ch ∧ (kv o s q).hot.length ≤ s.hot.length + 1 := by
 cases q with
 | none => exact ⟨rfl, rfl, Nat.le_succ _⟩
 | some x => exact DN
theorem Zc {o : bN aq} {s : bt.aN aq} {q : Option aq} (h : (kv o s q).ph ≠ 5) : (kv o s q).ph = s.ph ∧ (kv o s q).I = s.I ∧ (kv o s q).J = s.J ∧ (kv o s q).T = s.T := by
 cases q with
 | none => exact ⟨rfl, rfl, rfl, rfl⟩
 | some x => exact DP h
theorem uQ {p : aq} (h : gd p = true) : cG p.1 p.2 = true := by
 have h := s8.1 h;unfold cG; simp only [eh, cL]; omega
theorem PU {a b : bV} (h1 : cG a.1.1 a.1.2 = true) (h2 : cG a.2.1 a.2.2 = true) (ao : cG b.1.1 b.1.2 = true) (aH : cG b.2.1 b.2.2 = true) : Cc (fl a b) := by
 rw [← Jf h1 h2 ao aH]; exact ab7 ..
theorem Qp {n I J : Nat} (h : J < n) : ((bB n I J).1 : Int) = (if (J : Int) + 1 = (n : Int) then (I : Int) + 1 else I) ∧ ((bB n I J).2 : Int) = (if (J : Int) + 1 = (n : Int) then (I : Int) + 2 else (J : Int) + 1) ∧ (decide ((if (J : Int) + 1 = (n : Int) then (I : Int) + 2 else (J : Int) + 1) < (n : Int)) = decide ((bB n I J).2 < n)) := by
 unfold bB
 by_cases h1 : n ≤ J + 1
 ·have : (J : Int) + 1 = (n : Int) := by omega
  rw [if_pos h1, if_pos this, if_pos this];refine ⟨by simp, by simp, ?_⟩;rw [decide_eq_decide]; simp only; omega
 ·have : ¬ (J : Int) + 1 = (n : Int) := by omega
  rw [if_neg h1, if_neg this, if_neg this];refine ⟨by simp, by simp, ?_⟩;rw [decide_eq_decide]; simp only; omega
theorem abj {s : bt.aN aq} (al : r ≤ 28) (j1 : fK (E.map Prod.snd) = true) (ap : E.length ≤ 300) (gX : s.I < s.J) (fA : s.J < E.length) (hd : s.dirty = false) (aw : s.fnd = []) (aW : s.hot.length ≤ 1024) (hb : s.ph = 1) : gz E r rm 66 [] s l7 (qy (bx E r rm) s) := by
 obtain ⟨o, ⟨p1, p2⟩, ⟨cH, cC⟩, g1⟩ : ∃ o p q, E[s.I]? = some (o, p, q) := ⟨_, _, _, cj (by omega)⟩;obtain ⟨cR, ⟨v1, v2⟩, ⟨aT, w2⟩, g2⟩ : ∃ o p q, E[s.J]? = some (o, p, q) := ⟨_, _, _, cj fA⟩;have iM := G9 g1;have ml := G9 g2;have aD := rA j1 s.I;have hm := rA j1 s.J;rw [iM] at aD;rw [ml] at hm;have Db : (bx E r rm).n = E.length := jK ..
 have MY : (bx E r rm).lA s.I s.J = mA r (fl ((p1, p2), (cH, cC)) ((v1, v2), (aT, w2))) := by
  show uZ r ((E.map Prod.snd).getD s.I jY) ((E.map Prod.snd).getD s.J jY) = _;rw [iM, ml]; rfl
 have aP := JI (a1 := p1) (a2 := p2) (b1 := cH) (b2 := cC) (c1 := v1) (c2 := v2) (d1 := aT) (d2 := w2);rw [show rz p1 p2 cH cC v1 v2 aT w2 = fl ((p1, p2), (cH, cC)) ((v1, v2), (aT, w2)) from Jf (a := ((p1, p2), (cH, cC))) (b := ((v1, v2), (aT, w2))) (uQ aD.1) (uQ aD.2) (uQ hm.1) (uQ hm.2)] at aP;have H1 := O1 (E := E) (r := r) (rm := rm) (s := s) al (PU (a := ((p1, p2), (cH, cC))) (b := ((v1, v2), (aT, w2))) (uQ aD.1) (uQ aD.2) (uQ hm.1) (uQ hm.2)) (fun ae => Re al (a := ((p1, p2), (cH, cC))) (b := ((v1, v2), (aT, w2))) aD.1 aD.2 (by unfold uZ; rw [if_pos ae])) (by omega) aw (by omega);unfold qy;rw [MY, Db];have sI := Zd (o := bx E r rm) (s := s) (q := mA r (fl ((p1, p2), (cH, cC)) ((v1, v2), (aT, w2))));have xV := Zb (o := bx E r rm) (q := mA r (fl ((p1, p2), (cH, cC)) ((v1, v2), (aT, w2)))) aw;have wb := Zc (o := bx E r rm) (s := s) (q := mA r (fl ((p1, p2), (cH, cC)) ((v1, v2), (aT, w2))));generalize kv (bx E r rm) s (mA r (fl ((p1, p2), (cH, cC)) ((v1, v2), (aT, w2)))) = s1 at *;generalize fl ((p1, p2), (cH, cC)) ((v1, v2), (aT, w2)) = M at *;have jW := vP (ii := (s.I : Int)) rfl g1;have kn := vP (ii := (s.J : Int)) rfl g2;have i0 : (0 : Int) ≤ (s.I : Int) := by omega
 have i1 : (s.I : Int) < (E.length : Int) := by omega
 have aaU : (0 : Int) ≤ (s.J : Int) := by omega
 have rr : (s.J : Int) < (E.length : Int) := by omega
 rintro cs R j2;obtain ⟨hv, fv, cv, b, S, lk, hS, cY, gu, rfl, rfl⟩ := id j2;clear MY iM ml aD hm Db
 by_cases q1 : s1.ph = 5
 ·rw [if_pos q1];rw [q1] at H1;refine dv (f := 66) Tryz.func66 rfl (du rfl) (by exact eB rfl) ?_;(repeat first | (with_reducible apply eD); kernel_rfl | (with_reducible apply dU (id := 0) [22,23,0,1,2,3,4,5,6,7,8,9,10,11,12,13,14,15,16,17,18,19,20,21,24,25]); kernel_rfl; kernel_rfl; exact rfl | (with_reducible first | apply bb | apply aV | apply a8) | (with_reducible apply aO); exact rfl; (repeat first | (with_reducible apply az); exact rfl | (with_reducible apply gN); (iterate 5 exact rfl) | (with_reducible apply fi); (iterate 3 exact rfl); (omega); (omega); (assumption); exact rfl | (with_reducible apply df); (iterate 3 exact rfl) | refine n2 rfl rfl rfl rfl rfl rfl (by (exact aP)) rfl ?_); (with_reducible apply aA));refine iz rfl rfl rfl rfl rfl rfl rfl rfl H1 j2 (fun au aC cp => ?_);(repeat first | (with_reducible first | apply aV | apply aX | apply dM | apply kH) | (with_reducible apply eo); exact rfl; (exact rfl) | (with_reducible apply aO); exact rfl; (repeat first | (with_reducible apply az); exact rfl); (with_reducible apply aA));obtain ⟨cg, dh, c8, bR, dp, ht, fH, hI, iO, rfl, rfl⟩ := id cp
  ((refine eW rfl bf rfl (bL.refl _) cp.closed rfl ft ?_))
  exact ⟨_, rfl, rfl, cp⟩
 ·rw [if_neg q1];rw [CN q1] at H1;obtain ⟨m1, m2, m3, m4⟩ := wb q1;have j5 := Qp (n := E.length) (I := s1.I) (J := s1.J) (by omega);rw [← m2, ← m3];have fp := O2 (E := E) (r := r) (rm := rm) (s := { s1 with I := (bB E.length s1.I s1.J).1, J := (bB E.length s1.I s1.J).2 }) al j1 ap (by omega) (by show s1.dirty = false; rw [sI.1]; exact hd) xV;rw [show kZ (bx E r rm) { s1 with I := (bB E.length s1.I s1.J).1, J := (bB E.length s1.I s1.J).2 } = kZ (bx E r rm) s1 from rfl] at fp
  by_cases q2 : (bB E.length s1.I s1.J).2 < E.length
  ·rw [if_pos q2];have hJ := j5.2.2;rw [bF q2] at hJ;rw [m2, m3];refine dv (f := 66) Tryz.func66 rfl (du rfl) (by exact eB rfl) ?_;(repeat first | (with_reducible apply eD); kernel_rfl | (with_reducible apply dU (id := 0) [22,23,0,1,2,3,4,5,6,7,8,9,10,11,12,13,14,15,16,17,18,19,20,21,24,25]); kernel_rfl; kernel_rfl; exact rfl | (with_reducible first | apply bb | apply aV | apply a8) | (with_reducible apply aO); exact rfl; (repeat first | (with_reducible apply az); exact rfl | (with_reducible apply gN); (iterate 5 exact rfl) | (with_reducible apply fi); (iterate 3 exact rfl); (omega); (omega); (assumption); exact rfl | (with_reducible apply df); (iterate 3 exact rfl) | refine n2 rfl rfl rfl rfl rfl rfl (by (exact aP)) rfl ?_); (with_reducible apply aA));refine iz rfl rfl rfl rfl rfl rfl rfl rfl H1 j2 (fun au aC cp => ?_);obtain ⟨cg, dh, c8, bR, dp, ht, fH, hI, iO, rfl, rfl⟩ := id cp;have b6 := AK (E := E) (k := r) (rm := rm) (ph := s1.ph) (I := s1.I) (J := s1.J) (T := s1.T) (dirty := s1.dirty) (hv := cg) (fv := dh) (cv := c8) (b := bR) hI E.length (by omega) (by omega);rw [hJ, ← j5.1, ← j5.2.1] at b6;have fX : dC E r rm { s1 with I := (bB E.length s1.I s1.J).1, J := (bB E.length s1.I s1.J).2 } (eK E r rm s1.ph (bB E.length s1.I s1.J).1 (bB E.length s1.I s1.J).2 s1.T s1.dirty cg dh c8 bR ht) (dT bR dp cg dh c8 s1.hot s1.fnd s1.ch) := ⟨cg, dh, c8, bR, dp, ht, fH, hI, iO, rfl, rfl⟩;(repeat first | (with_reducible first | apply bb | apply aV | apply a8 | apply aX | apply dc) | (with_reducible apply c4); exact rfl; (exact rfl) | (with_reducible apply aO); exact rfl; (repeat first | (with_reducible apply az); exact rfl | (with_reducible apply df); (iterate 3 exact rfl) | (with_reducible apply c6); (iterate 3 exact rfl)); (with_reducible apply aA));refine ky 1000 rfl rfl rfl rfl b6 rfl rfl cp.closed rfl rfl ?_;(repeat first | (with_reducible first | apply aV | apply aX | apply dc) | (with_reducible apply c4); exact rfl; (exact rfl) | (with_reducible apply aO); exact rfl; (repeat first | (with_reducible apply az); exact rfl); (with_reducible apply aA))
   ((refine eW rfl bf rfl (bL.refl _) fX.closed rfl ft ?_))
   refine ⟨_, rfl, rfl, ?_⟩;rw [← m2, ← m3];exact fX
  ·rw [if_neg q2];have hJ := j5.2.2;rw [b5 q2] at hJ;rw [m2, m3];refine dv (f := 66) Tryz.func66 rfl (du rfl) (by exact eB rfl) ?_;(repeat first | (with_reducible apply eD); kernel_rfl | (with_reducible apply dU (id := 0) [22,23,0,1,2,3,4,5,6,7,8,9,10,11,12,13,14,15,16,17,18,19,20,21,24,25]); kernel_rfl; kernel_rfl; exact rfl | (with_reducible first | apply bb | apply aV | apply a8) | (with_reducible apply aO); exact rfl; (repeat first | (with_reducible apply az); exact rfl | (with_reducible apply gN); (iterate 5 exact rfl) | (with_reducible apply fi); (iterate 3 exact rfl); (omega); (omega); (assumption); exact rfl | (with_reducible apply df); (iterate 3 exact rfl) | refine n2 rfl rfl rfl rfl rfl rfl (by (exact aP)) rfl ?_); (with_reducible apply aA));refine iz rfl rfl rfl rfl rfl rfl rfl rfl H1 j2 (fun au aC cp => ?_);obtain ⟨cg, dh, c8, bR, dp, ht, fH, hI, iO, rfl, rfl⟩ := id cp;have b6 := AK (E := E) (k := r) (rm := rm) (ph := s1.ph) (I := s1.I) (J := s1.J) (T := s1.T) (dirty := s1.dirty) (hv := cg) (fv := dh) (cv := c8) (b := bR) hI E.length (by omega) (by omega);rw [hJ, ← j5.1, ← j5.2.1] at b6;have fX : dC E r rm { s1 with I := (bB E.length s1.I s1.J).1, J := (bB E.length s1.I s1.J).2 } (eK E r rm s1.ph (bB E.length s1.I s1.J).1 (bB E.length s1.I s1.J).2 s1.T s1.dirty cg dh c8 bR ht) (dT bR dp cg dh c8 s1.hot s1.fnd s1.ch) := ⟨cg, dh, c8, bR, dp, ht, fH, hI, iO, rfl, rfl⟩;(repeat first | (with_reducible first | apply bb | apply aV | apply a8 | apply aX | apply dc) | (with_reducible apply c4); exact rfl; (exact rfl) | (with_reducible apply aO); exact rfl; (repeat first | (with_reducible apply az); exact rfl | (with_reducible apply df); (iterate 3 exact rfl) | (with_reducible apply c6); (iterate 3 exact rfl)); (with_reducible apply aA));refine ky 1000 rfl rfl rfl rfl b6 rfl rfl cp.closed rfl rfl ?_;(repeat first | (with_reducible first | apply aV | apply a8 | apply aX) | (with_reducible apply eo); exact rfl; (exact rfl) | (with_reducible apply aO); exact rfl; (repeat first | (with_reducible apply az); exact rfl); (with_reducible apply aA));refine iz rfl rfl rfl rfl rfl rfl rfl rfl fp fX (fun au aC lT => ?_);(repeat first | with_reducible apply aX);obtain ⟨Ec, Dw, C5, dQ, vr, EA, DF, DX, DW, rfl, rfl⟩ := id lT
   ((refine eW rfl bf rfl (bL.refl _) lT.closed rfl ft ?_))
   exact ⟨_, rfl, rfl, lT⟩
end
section
variable {E : List (Int × bV)} {r rm : Nat}
theorem V5 {r : Nat} {l m : aq × aq} (h1 : e4 r l.1.1 l.1.2 = true) (h2 : e4 r l.2.1 l.2.2 = true) (ao : e4 r m.1.1 m.1.2 = true) (aH : e4 r m.2.1 m.2.2 = true) : Cc (oT r l m) := by
 unfold oT
 split
 ·exact .inl rfl
 ·exact PU (rc h1) (rc h2) (rc ao) (rc aH)
theorem abi {s : bt.aN aq} (al : r ≤ 28) (ak : kM s.ch) (aJ : 0 < s.ch.length) (gX : s.I < s.J) (fA : s.J < (aQ s.ch).length) (ax : ∀ l ∈ aQ s.ch, e4 r l.1.1 l.1.2 = true ∧ e4 r l.2.1 l.2.2 = true) (aw : s.fnd = []) (aW : s.hot.length ≤ 1024) (hb : s.ph = 3) : gz E r rm 68 [] s l7 (pf (bx E r rm) s) := by
 have vU : (aQ s.ch).length ≤ 300 * 1100 := lC (EC (m := 1100) fun c h => (ak.2 c h).2) (kC _ ak.1);obtain ⟨a1, a2, a3, a4, g1⟩ : ∃ a b c d, (aQ s.ch)[s.I]? = some ((a, b), (c, d)) := ⟨_, _, _, _, cj (by omega)⟩;obtain ⟨b1, b2, ey, dQ, g2⟩ : ∃ a b c d, (aQ s.ch)[s.J]? = some ((a, b), (c, d)) := ⟨_, _, _, _, cj fA⟩;obtain ⟨kk, z2⟩ := ax _ (dL g1);obtain ⟨z3, z4⟩ := ax _ (dL g2);have aP := aec al (l := ((a1, a2), (a3, a4))) (m := ((b1, b2), (ey, dQ))) kk z2 z3 z4;have jE := V5 (l := ((a1, a2), (a3, a4))) (m := ((b1, b2), (ey, dQ))) kk z2 z3 z4;have hcut : (bx E r rm).cut ((a1, a2), (a3, a4)) ((b1, b2), (ey, dQ)) = mA r (oT r ((a1, a2), (a3, a4)) ((b1, b2), (ey, dQ))) := Mr r _ _;have H1 := O1 (E := E) (r := r) (rm := rm) (s := s) al jE (fun ae => Mt (l := ((a1, a2), (a3, a4))) (m := ((b1, b2), (ey, dQ))) kk z2 (by rw [Mr, if_pos ae])) (by omega) aw (by omega);have jW := Pl (ii := (s.I : Int)) rfl g1;have kn := Pl (ii := (s.J : Int)) rfl g2
 have em : pf (bx E r rm) s = if (bt.dE (bx E r rm) s (mA r (oT r ((a1, a2), (a3, a4)) ((b1, b2), (ey, dQ))))).ph = 5 then bt.dE (bx E r rm) s (mA r (oT r ((a1, a2), (a3, a4)) ((b1, b2), (ey, dQ)))) else
   if (bB (aQ s.ch).length s.I s.J).2 < (aQ s.ch).length then { bt.dE (bx E r rm) s (mA r (oT r ((a1, a2), (a3, a4)) ((b1, b2), (ey, dQ)))) with I := (bB (aQ s.ch).length s.I s.J).1, J := (bB (aQ s.ch).length s.I s.J).2 } else l6 (bt.dE (bx E r rm) s (mA r (oT r ((a1, a2), (a3, a4)) ((b1, b2), (ey, dQ))))) := by
  unfold pf;simp only [g1, g2, hcut]
 rw [em];clear em hcut jE kk z2 z3 z4 g1 g2;simp only at aP H1;generalize oT r ((a1, a2), (a3, a4)) ((b1, b2), (ey, dQ)) = M at *;have j5 := Qp (n := (aQ s.ch).length) (I := s.I) (J := s.J) fA;have i0 : (0 : Int) ≤ (s.I : Int) := by omega
 have i1 : (s.I : Int) < ((aQ s.ch).length : Int) := by omega
 have aaU : (0 : Int) ≤ (s.J : Int) := by omega
 have rr : (s.J : Int) < ((aQ s.ch).length : Int) := by omega
 rintro cs R j2;obtain ⟨hv, fv, cv, b, S, lk, hS, cY, gu, rfl, rfl⟩ := id j2;obtain rfl := gu hb
 by_cases ae : M.k = 1
 ·have sw : mA r M = some (iU r M) := if_pos ae;rw [sw] at H1 ⊢;have sI := DN (o := bx E r rm) (s := s) (q := iU r M);have xV := DO (o := bx E r rm) (q := iU r M) aw;have wb := DP (o := bx E r rm) (s := s) (q := iU r M);unfold bt.dE;simp only [kv] at H1 ⊢;generalize dt (bx E r rm) s (iU r M) = s1 at *
  by_cases q1 : s1.ph = 5
  ·rw [if_pos q1, if_pos q1];rw [q1] at H1;obtain ⟨mk, Jn, md, dG, Jg, Jo, Jp, Jq, Jr⟩ := M;obtain rfl : mk = 1 := ae;refine dv (f := 68) Tryz.func68 rfl (du rfl) (by exact eB rfl) ?_;(repeat first | (with_reducible apply eD); kernel_rfl | (with_reducible apply dU (id := 1) [20,21,0,1,2,3,4,5,6,7,8,9,10,11,12,13,14,15,16,17,18,19,22,23]); kernel_rfl; kernel_rfl; exact rfl | (with_reducible apply dU (id := 2) [7,0,1,2,3,4,5,6,8]); kernel_rfl; kernel_rfl; exact rfl | (with_reducible first | apply bb | apply aV | apply a8 | apply aX) | (with_reducible apply eo); exact rfl; (assumption) | (with_reducible apply aO); exact rfl; (repeat first | (with_reducible apply az); exact rfl | (with_reducible apply gN); (iterate 5 exact rfl) | (with_reducible apply fi); (iterate 3 exact rfl); (omega); (omega); (assumption); exact rfl | (with_reducible apply df); (iterate 3 exact rfl) | refine kt rfl rfl rfl rfl rfl (by (exact aP)) rfl ?_); (with_reducible apply aA));refine iz rfl rfl rfl rfl rfl rfl rfl rfl H1 j2 (fun au aC cp => ?_);(repeat first | (with_reducible first | apply aV | apply aX | apply dM | apply kH) | (with_reducible apply eo); exact rfl; (assumption) | (with_reducible apply aO); exact rfl; (repeat first | (with_reducible apply az); exact rfl); (with_reducible apply aA));obtain ⟨cg, dh, c8, bR, dp, ht, fH, hI, iO, rfl, rfl⟩ := id cp
   ((refine eW rfl bf rfl (bL.refl _) cp.closed rfl ft ?_))
   exact ⟨_, rfl, rfl, cp⟩
  ·rw [if_neg q1, if_neg q1];rw [CN q1] at H1;obtain ⟨m1, m2, m3, m4⟩ := wb q1;have ua : s1.ch = s.ch := sI.2.1;have fp := O3 (E := E) (r := r) (rm := rm) (s := { s1 with dirty := true, I := (bB (aQ s.ch).length s.I s.J).1, J := (bB (aQ s.ch).length s.I s.J).2 }) xV (by show kM s1.ch; rw [ua]; exact ak) (by show 0 < s1.ch.length; rw [ua]; exact aJ);rw [show l6 ({ s1 with dirty := true, I := (bB (aQ s.ch).length s.I s.J).1, J := (bB (aQ s.ch).length s.I s.J).2 } : bt.aN aq) = l6 ({ s1 with dirty := true } : bt.aN aq) from rfl] at fp;have od : (s1.I : Int) = s.I := by omega
   have DZ : (s1.J : Int) = s.J := by omega
   obtain ⟨mk, Jn, md, dG, Jg, Jo, Jp, Jq, Jr⟩ := M;obtain rfl : mk = 1 := ae
   by_cases q2 : (bB (aQ s.ch).length s.I s.J).2 < (aQ s.ch).length
   ·rw [if_pos q2];have hJ := j5.2.2;rw [bF q2] at hJ;refine dv (f := 68) Tryz.func68 rfl (du rfl) (by exact eB rfl) ?_;(repeat first | (with_reducible apply eD); kernel_rfl | (with_reducible apply dU (id := 1) [20,21,0,1,2,3,4,5,6,7,8,9,10,11,12,13,14,15,16,17,18,19,22,23]); kernel_rfl; kernel_rfl; exact rfl | (with_reducible apply dU (id := 2) [7,0,1,2,3,4,5,6,8]); kernel_rfl; kernel_rfl; exact rfl | (with_reducible first | apply bb | apply aV | apply a8 | apply aX) | (with_reducible apply eo); exact rfl; (assumption) | (with_reducible apply aO); exact rfl; (repeat first | (with_reducible apply az); exact rfl | (with_reducible apply gN); (iterate 5 exact rfl) | (with_reducible apply fi); (iterate 3 exact rfl); (omega); (omega); (assumption); exact rfl | (with_reducible apply df); (iterate 3 exact rfl) | refine kt rfl rfl rfl rfl rfl (by (exact aP)) rfl ?_); (with_reducible apply aA));refine iz rfl rfl rfl rfl rfl rfl rfl rfl H1 j2 (fun au aC cp => ?_);obtain ⟨cg, dh, c8, bR, dp, ht, fH, hI, iO, rfl, rfl⟩ := id cp;obtain rfl := iO (by omega);have b6 := AK (E := E) (k := r) (rm := rm) (ph := s1.ph) (I := s1.I) (J := s1.J) (T := s1.T) (dirty := true) (hv := cg) (fv := dh) (cv := c8) (b := bR) hI (aQ s1.ch).length (by omega) (by omega);rw [ua, od, DZ, hJ, ← j5.1, ← j5.2.1] at b6;have fX : dC E r rm { s1 with dirty := true, I := (bB (aQ s.ch).length s.I s.J).1, J := (bB (aQ s.ch).length s.I s.J).2 } (eK E r rm s1.ph (bB (aQ s.ch).length s.I s.J).1 (bB (aQ s.ch).length s.I s.J).2 s1.T true cg dh c8 bR (.p (cx 4 (aQ s1.ch).length (na (aQ s1.ch))))) (dT bR dp cg dh c8 s1.hot s1.fnd s1.ch) := ⟨cg, dh, c8, bR, dp, _, fH, rfl, fun _ => rfl, rfl, rfl⟩;rw [ua] at fX;rw [od, DZ, ua];(repeat first | (with_reducible first | apply bb | apply aV | apply a8 | apply aX | apply dc) | (with_reducible apply c4); exact rfl; (exact rfl) | (with_reducible apply aO); exact rfl; (repeat first | (with_reducible apply az); exact rfl | (with_reducible apply df); (iterate 3 exact rfl) | (with_reducible apply c6); (iterate 3 exact rfl)); (with_reducible apply aA));refine ky 1000 rfl rfl rfl rfl b6 rfl rfl rfl rfl rfl ?_;(repeat first | (with_reducible first | apply aV | apply aX | apply dc) | (with_reducible apply c4); exact rfl; (exact rfl) | (with_reducible apply aO); exact rfl; (repeat first | (with_reducible apply az); exact rfl); (with_reducible apply aA))
    ((refine eW rfl bf rfl (bL.refl _) fX.closed rfl ft ?_))
    exact ⟨_, rfl, rfl, fX⟩
   ·rw [if_neg q2];have hJ := j5.2.2;rw [b5 q2] at hJ;refine dv (f := 68) Tryz.func68 rfl (du rfl) (by exact eB rfl) ?_;(repeat first | (with_reducible apply eD); kernel_rfl | (with_reducible apply dU (id := 1) [20,21,0,1,2,3,4,5,6,7,8,9,10,11,12,13,14,15,16,17,18,19,22,23]); kernel_rfl; kernel_rfl; exact rfl | (with_reducible apply dU (id := 2) [7,0,1,2,3,4,5,6,8]); kernel_rfl; kernel_rfl; exact rfl | (with_reducible first | apply bb | apply aV | apply a8 | apply aX) | (with_reducible apply eo); exact rfl; (assumption) | (with_reducible apply aO); exact rfl; (repeat first | (with_reducible apply az); exact rfl | (with_reducible apply gN); (iterate 5 exact rfl) | (with_reducible apply fi); (iterate 3 exact rfl); (omega); (omega); (assumption); exact rfl | (with_reducible apply df); (iterate 3 exact rfl) | refine kt rfl rfl rfl rfl rfl (by (exact aP)) rfl ?_); (with_reducible apply aA));refine iz rfl rfl rfl rfl rfl rfl rfl rfl H1 j2 (fun au aC cp => ?_);obtain ⟨cg, dh, c8, bR, dp, ht, fH, hI, iO, rfl, rfl⟩ := id cp;obtain rfl := iO (by omega);have b6 := AK (E := E) (k := r) (rm := rm) (ph := s1.ph) (I := s1.I) (J := s1.J) (T := s1.T) (dirty := true) (hv := cg) (fv := dh) (cv := c8) (b := bR) hI (aQ s1.ch).length (by omega) (by omega);rw [ua, od, DZ, hJ, ← j5.1, ← j5.2.1] at b6;have fX : dC E r rm { s1 with dirty := true, I := (bB (aQ s.ch).length s.I s.J).1, J := (bB (aQ s.ch).length s.I s.J).2 } (eK E r rm s1.ph (bB (aQ s.ch).length s.I s.J).1 (bB (aQ s.ch).length s.I s.J).2 s1.T true cg dh c8 bR (.p (cx 4 (aQ s1.ch).length (na (aQ s1.ch))))) (dT bR dp cg dh c8 s1.hot s1.fnd s1.ch) := ⟨cg, dh, c8, bR, dp, _, fH, rfl, fun _ => rfl, rfl, rfl⟩;rw [ua] at fX fp;rw [od, DZ, ua];(repeat first | (with_reducible first | apply bb | apply aV | apply a8 | apply aX | apply dc) | (with_reducible apply c4); exact rfl; (exact rfl) | (with_reducible apply aO); exact rfl; (repeat first | (with_reducible apply az); exact rfl | (with_reducible apply df); (iterate 3 exact rfl) | (with_reducible apply c6); (iterate 3 exact rfl)); (with_reducible apply aA));refine ky 1000 rfl rfl rfl rfl b6 rfl rfl rfl rfl rfl ?_;(repeat first | (with_reducible first | apply aV | apply a8 | apply aX) | (with_reducible apply eo); exact rfl; (assumption) | (with_reducible apply aO); exact rfl; (repeat first | (with_reducible apply az); exact rfl); (with_reducible apply aA));refine iz rfl rfl rfl rfl rfl rfl rfl rfl fp fX (fun au aC lT => ?_);(repeat first | with_reducible apply aX);obtain ⟨Ec, Dw, C5, dQ, vr, EA, DF, DX, DW, rfl, rfl⟩ := id lT
    ((refine eW rfl bf rfl (bL.refl _) lT.closed rfl ft ?_))
    exact ⟨_, rfl, rfl, lT⟩
 ·have sw : mA r M = none := if_neg ae;rw [sw];have W2 : bt.dE (bx E r rm) s none = s := rfl;rw [W2, if_neg (by omega)];clear H1;have fp := O3 (E := E) (r := r) (rm := rm) (s := { s with I := (bB (aQ s.ch).length s.I s.J).1, J := (bB (aQ s.ch).length s.I s.J).2 }) aw ak aJ;rw [show l6 ({ s with I := (bB (aQ s.ch).length s.I s.J).1, J := (bB (aQ s.ch).length s.I s.J).2 } : bt.aN aq) = l6 s from rfl] at fp;have b6 := AK (E := E) (k := r) (rm := rm) (ph := s.ph) (I := s.I) (J := s.J) (T := s.T) (dirty := s.dirty) (hv := hv) (fv := fv) (cv := cv) (b := b) cY (aQ s.ch).length (by omega) (by omega);have fX : dC E r rm { s with I := (bB (aQ s.ch).length s.I s.J).1, J := (bB (aQ s.ch).length s.I s.J).2 } (eK E r rm s.ph (bB (aQ s.ch).length s.I s.J).1 (bB (aQ s.ch).length s.I s.J).2 s.T s.dirty hv fv cv b (.p (cx 4 (aQ s.ch).length (na (aQ s.ch))))) (dT b S hv fv cv s.hot s.fnd s.ch) := ⟨hv, fv, cv, b, S, _, hS, rfl, fun _ => rfl, rfl, rfl⟩;obtain ⟨mk, Jn, md, dG, Jg, Jo, Jp, Jq, Jr⟩ := M;have ae : ¬ mk = 1 := ae
  by_cases q2 : (bB (aQ s.ch).length s.I s.J).2 < (aQ s.ch).length
  ·rw [if_pos q2];have hJ := j5.2.2;rw [bF q2] at hJ;rw [hJ, ← j5.1, ← j5.2.1] at b6;refine dv (f := 68) Tryz.func68 rfl (du rfl) (by exact eB rfl) ?_;(repeat first | (with_reducible apply eD); kernel_rfl | (with_reducible apply dU (id := 1) [20,21,0,1,2,3,4,5,6,7,8,9,10,11,12,13,14,15,16,17,18,19,22,23]); kernel_rfl; kernel_rfl; exact rfl | (with_reducible apply dU (id := 2) [7,0,1,2,3,4,5,6,8]); kernel_rfl; kernel_rfl; exact rfl | (with_reducible first | apply bb | apply aV | apply a8 | apply aX | apply dc) | (with_reducible apply c4); exact rfl; (exact b5 (by omega)) | (with_reducible apply aO); exact rfl; (repeat first | (with_reducible apply az); exact rfl | (with_reducible apply gN); (iterate 5 exact rfl) | (with_reducible apply fi); (iterate 3 exact rfl); (omega); (omega); (assumption); exact rfl | (with_reducible apply df); (iterate 3 exact rfl) | (with_reducible apply c6); (iterate 3 exact rfl) | refine kt rfl rfl rfl rfl rfl (by (exact aP)) rfl ?_); (with_reducible apply aA));refine ky 1000 rfl rfl rfl rfl b6 rfl rfl rfl rfl rfl ?_;(repeat first | (with_reducible first | apply aV | apply aX | apply dc) | (with_reducible apply c4); exact rfl; (exact rfl) | (with_reducible apply aO); exact rfl; (repeat first | (with_reducible apply az); exact rfl); (with_reducible apply aA))
   ((refine eW rfl bf rfl (bL.refl _) fX.closed rfl ft ?_))
   exact ⟨_, rfl, rfl, fX⟩
  ·rw [if_neg q2];have hJ := j5.2.2;rw [b5 q2] at hJ;rw [hJ, ← j5.1, ← j5.2.1] at b6;refine dv (f := 68) Tryz.func68 rfl (du rfl) (by exact eB rfl) ?_;(repeat first | (with_reducible apply eD); kernel_rfl | (with_reducible apply dU (id := 1) [20,21,0,1,2,3,4,5,6,7,8,9,10,11,12,13,14,15,16,17,18,19,22,23]); kernel_rfl; kernel_rfl; exact rfl | (with_reducible apply dU (id := 2) [7,0,1,2,3,4,5,6,8]); kernel_rfl; kernel_rfl; exact rfl | (with_reducible first | apply bb | apply aV | apply a8 | apply aX | apply dc) | (with_reducible apply c4); exact rfl; (exact b5 (by omega)) | (with_reducible apply aO); exact rfl; (repeat first | (with_reducible apply az); exact rfl | (with_reducible apply gN); (iterate 5 exact rfl) | (with_reducible apply fi); (iterate 3 exact rfl); (omega); (omega); (assumption); exact rfl | (with_reducible apply df); (iterate 3 exact rfl) | (with_reducible apply c6); (iterate 3 exact rfl) | refine kt rfl rfl rfl rfl rfl (by (exact aP)) rfl ?_); (with_reducible apply aA));refine ky 1000 rfl rfl rfl rfl b6 rfl rfl rfl rfl rfl ?_;(repeat first | (with_reducible first | apply aV | apply a8 | apply aX) | (with_reducible apply eo); exact rfl; (assumption) | (with_reducible apply aO); exact rfl; (repeat first | (with_reducible apply az); exact rfl); (with_reducible apply aA));refine iz rfl rfl rfl rfl rfl rfl rfl rfl fp fX (fun au aC lT => ?_);(repeat first | with_reducible apply aX);obtain ⟨Ec, Dw, C5, dQ, vr, EA, DF, DX, DW, rfl, rfl⟩ := id lT
   ((refine eW rfl bf rfl (bL.refl _) lT.closed rfl ft ?_))
   exact ⟨_, rfl, rfl, lT⟩
end
section
variable {E : List (Int × bV)} {r rm : Nat}
theorem RJ {b : Nat} {S : ff} {hv fv cv v : Value} {hot fnd : List aq} {ch l : List (List aq × List Int)} : bJ (dT b S hv fv cv hot fnd ch) 3 (xy v l) = dT b S hv fv v hot fnd l := by
  funext i
  match i with
  | 0 => rfl
  | 1 => rfl
  | 2 => rfl
  | 3 => rfl
  | i + 4 => rfl
theorem Mf {ch : List (List aq × List Int)} {i : Nat} {ii : Int} {V : List aq} {D : List Int} (hi : ii = i) (h : i < ch.length) : eO (eQ ch) (ii.toNat * 2) [.p (cx 2 V.length (b8 V)), .p (cx 1 D.length (cy D))] = eQ (ch.set i (V, D)) := by
  subst hi;rw [k6];have e : ch = ch.take i ++ ch[i] :: ch.drop (i + 1) := by rw [← nL h, k3]
  have ap : (eQ (ch.take i)).length = i * 2 := by
    have := Du (f := p0) (z := 2) (fun _ => rfl) (ch.take i);unfold eQ;rw [this, eu, qC (by omega)]
  have aG : eQ ch = eQ (ch.take i) ++ (p0 ch[i] ++ eQ (ch.drop (i + 1))) := (congrArg eQ e).trans (by unfold eQ; rw [List.flatMap_append, List.flatMap_cons]);rw [aG, Ko ap, List.set_eq_take_append_cons_drop, if_pos h];simp [eQ, p0]
theorem XI {p q : aq} {fs : List aq} (aD : fs.Nodup) : ja (dN (decide ((2 : Int) ^ r * q.1 < 2 ^ r * p.1)) (decide ((2 : Int) ^ r * q.2 < 2 ^ r * p.2))) fs = fw p q fs := by
  rw [Ds, Ds];exact agJ aD (by rw [List.filter_eq_self.2 (fun _ _ => rfl)])
theorem abk {s : bt.aN aq} {V : List aq} {D : List Int} {p q x : aq} (al : r ≤ 28) (ak : kM s.ch) (g1 : s.ch[s.I]? = some (V, D)) (g2 : V[s.J]? = some p) (g3 : V[s.J + 1]? = some q) (g4 : s.hot[s.T]? = some x) (kR : ∀ d ∈ D, 1 ≤ d ∧ d ≤ 1048576)
    (hp : e4 r p.1 p.2 = true) (an : e4 r q.1 q.2 = true) (hd : s.dirty = false) (aW : s.hot.length ≤ 1024) (xY : s.fnd.length ≤ 1024) (xZ : (jZ (bx E r rm) p q x s.fnd).Nodup) (hb : s.ph = 2) : gz E r rm 67 [] s l7 (pe (bx E r rm) s (V, D) p q (jZ (bx E r rm) p q x s.fnd)) := by
  obtain ⟨p1, p2⟩ := p;obtain ⟨q1, q2⟩ := q;obtain ⟨c0, dm⟩ := x;obtain ⟨jG, hH⟩ := ak.2 _ (dL g1);simp only at jG hH;have bp := (bP.1 g1).1;have fA := (bP.1 g3).1;have ee := (bP.1 g4).1;have ay : hg (r : Int) r := ⟨al, .inr (.inr rfl)⟩;have aP := Q0 (D := D) g2 g3 (by omega);have b6 := aez (E := E.map Prod.snd) (R := rm) al (p := (p1, p2)) (q := (q1, q2)) (x := (c0, dm)) hp an;have fo := E7 (tc ay hp) (tc ay an);simp only at b6 fo;have nS := adC (a1 := 2 ^ r * p1) (a2 := 2 ^ r * p2) (b1 := 2 ^ r * q1) (b2 := 2 ^ r * q2);obtain ⟨jW, kn⟩ := CY (ii := (s.I : Int)) rfl g1;have yU := aaA (ii := (s.T : Int)) rfl g4;have i0 : (0 : Int) ≤ (s.I : Int) := by omega
  have i1 : (s.I : Int) < (s.ch.length : Int) := by omega
  have i2 : 0 < s.ch.length := by omega
  have t0 : (0 : Int) ≤ (s.T : Int) := by omega
  have t1 : (s.T : Int) < (s.hot.length : Int) := by omega
  have t2 : 0 < s.hot.length := by omega
  have Yy : (s.J : Int) ≤ 1100 := by omega
  have cW := ak.1
 
  have split : ∀ fs : List aq, fs = jZ (bx E r rm) (p1, p2) (q1, q2) (c0, dm) s.fnd → fs ≠ [] → fs.length ≤ 1100 → aY aj 126 [hR fs, w1 (decide ((2 : Int) ^ r * q1 < 2 ^ r * p1)) (decide ((2 : Int) ^ r * q2 < 2 ^ r * p2))] (hR (fw (p1, p2) (q1, q2) fs)) ∧
      aY aj 125 [oH V D, aR s.J, hR (fw (p1, p2) (q1, q2) fs)] (.dd [.agg [.p (cx 2 (bt.cz V s.J (fw (p1, p2) (q1, q2) fs)).length (b8 (bt.cz V s.J (fw (p1, p2) (q1, q2) fs)))), .p (cx 1 (dq D s.J fs.length).length (cy (dq D s.J fs.length)))], .one (.c (.bool true))]) := by
    intro fs H6 ca Zk;have aD : fs.Nodup := by rw [H6]; exact xZ
    have hlen : (fw (p1, p2) (q1, q2) fs).length = fs.length := (pB _ _ fs).length_eq;refine ⟨?_, ?_⟩
    · have := ad2 (fx := decide ((2 : Int) ^ r * q1 < 2 ^ r * p1)) (fy := decide ((2 : Int) ^ r * q2 < 2 ^ r * p2)) 1100 fs Zk (by omega)
      rw [XI (p := (p1, p2)) (q := (q1, q2)) aD] at this;exact this
    · have := aa9 V D s.J (fw (p1, p2) (q1, q2) fs) jG hH (by omega) (by omega) kR
      have D3 : (fw (p1, p2) (q1, q2) fs).isEmpty = false := by
        cases h : fw (p1, p2) (q1, q2) fs with
        | nil => rw [h] at hlen; exact absurd (mE hlen.symm) ca
        | cons a l => rfl
      rw [D3, hlen] at this;exact this
  rintro cs R j2;obtain ⟨hv, fv, cv, b, S, lk, hS, cY, gu, rfl, rfl⟩ := id j2;have di : ∀ (I J T : Int) (fv : Value), (eK E r rm s.ph I J T s.dirty hv fv cv b lk).all AC.bd = true := fun I J T fv => by simp only [kF, nh, cY]; rfl
  unfold pe;simp only [show (bx E r rm).dj = fw from rfl];cases vX : fF (bx E r rm) (p1, p2) (q1, q2) (c0, dm) with
  | true =>
    rw [vX] at b6;have Ha : jZ (bx E r rm) (p1, p2) (q1, q2) (c0, dm) s.fnd = s.fnd ++ [(c0, dm)] := by unfold jZ; rw [vX]; rfl
    rw [Ha] at split ⊢;have Zl : (s.fnd ++ [(c0, dm)]).length ≤ 1100 := by rw [cX, List.length_singleton]; omega
    have ca : s.fnd ++ [(c0, dm)] ≠ [] := by simp
    obtain ⟨yT, F6⟩ := split _ rfl ca Zl;clear split xZ vX;refine dv (f := 67) Tryz.func67 rfl (du rfl) (by exact eB rfl) ?_;(repeat first | (with_reducible apply eD); kernel_rfl | (with_reducible apply dU (id := 1) [10,0,1,2,3,4,5,6,7,8,9,11]); kernel_rfl; kernel_rfl; exact rfl | (with_reducible apply dU (id := 2) [6,0,1,2,3,4,5,7]); kernel_rfl; kernel_rfl; exact rfl | (with_reducible apply dU (id := 3) [10,0,1,2,3,4,5,6,7,8,9,11]); kernel_rfl; kernel_rfl; exact rfl | (with_reducible apply dU (id := 4) [0,1,2,3,4,5,6]); kernel_rfl; kernel_rfl; exact rfl | (with_reducible apply l5 (id := 5) [0,1,2,3,4,5,6,7,8,9,10] [3000048]); kernel_rfl; kernel_rfl; exact rfl | (with_reducible first | apply bb | apply aV | apply a8 | apply aX) | (with_reducible apply eo); exact rfl; (exact rfl) | (with_reducible apply aO); exact rfl; (repeat first | (with_reducible apply az); exact rfl | (with_reducible apply df); (iterate 3 exact rfl) | (with_reducible apply lM); (iterate 10 exact rfl) | refine dP rfl rfl rfl rfl (by (exact aP)) rfl ?_ | refine kt rfl rfl rfl rfl rfl (by (exact b6)) rfl ?_); (with_reducible apply aA) | (with_reducible apply j9 1); (iterate 4 exact rfl); (omega); (assumption); exact rfl; kernel_rfl; exact rfl | (with_reducible apply j9 3); (iterate 4 exact rfl); (omega); (assumption); exact rfl; kernel_rfl; exact rfl | (with_reducible apply ol 1); (iterate 3 exact rfl); (assumption); assumption; exact rfl; kernel_rfl; exact rfl | (with_reducible apply ol 3); (iterate 3 exact rfl); (assumption); assumption; exact rfl; kernel_rfl; exact rfl);refine oi 2 rfl rfl rfl rfl ?q1 ?q2 rfl rfl (fun v1 ic => ?_)
    case q1 => exact ka (by show s.fnd.length + 1 ≤ 1000000; omega)
    case q2 => show (s.fnd.length + 1) * 16 ≤ 140737488355328; omega
    (repeat first | (with_reducible apply eD); kernel_rfl | (with_reducible apply dU (id := 7) [0,1,2,3,4,5,6,7,8,9]); kernel_rfl; kernel_rfl; exact rfl | (with_reducible first | apply bb | apply aV | apply a8 | apply aX) | (with_reducible apply aO); exact rfl; (repeat first | (with_reducible apply az); exact rfl | (with_reducible apply df); (iterate 3 exact rfl) | (with_reducible apply fh); (iterate 3 exact rfl); (exact cZ (by omega)); exact rfl); (with_reducible apply aA) | (with_reducible apply oj 1); (iterate 4 exact rfl); kernel_rfl; exact rfl);refine wR (dT b S hv v1 cv s.hot (s.fnd ++ [(c0, dm)]) s.ch) (bL.of_eq afw.symm) ?_
    by_cases uo : s.T + 1 < s.hot.length
    · rw [if_pos uo]
      have zV : (s.T : Int) + 1 < (s.hot.length : Int) := by omega
      have fX : dC E r rm { s with fnd := s.fnd ++ [(c0, dm)], T := s.T + 1 } (eK E r rm s.ph s.I s.J ((s.T : Int) + 1) s.dirty hv v1 cv b lk) (dT b S hv v1 cv s.hot (s.fnd ++ [(c0, dm)]) s.ch) := ⟨hv, v1, cv, b, S, lk, hS, cY, gu, rfl, rfl⟩;(repeat first | (with_reducible first | apply dM | apply kH) | (with_reducible apply eo); exact rfl; (exact bF (by omega)))
      ((refine eW rfl bf rfl (bL.refl _) fX.closed rfl ft ?_))
      exact ⟨_, rfl, rfl, fX⟩
    · rw [if_neg uo, if_neg ca]
      have zV : ¬ (s.T : Int) + 1 < (s.hot.length : Int) := by omega
      have D3 : ¬ ((s.fnd ++ [(c0, dm)]).length : Int) = 0 := fun h => ca (mE (by omega));refine FC 2 1000 9 (hO v1 (s.fnd ++ [(c0, dm)])) rfl rfl rfl ?_;refine mF 2 59 2 rfl ?_
      refine wR (dT b S hv (.slice none 0 0) cv s.hot [] s.ch) (fun k q ae => by
        match k with
        | 0 => exact ae
        | 1 => exact ae
        | 2 => exact ae
        | 3 => exact ae
        | k + 4 => cases ae) ?_
      have fX : dC E r rm { s with T := 0, fnd := [], ch := s.ch.set s.I (bt.cz V s.J (fw (p1, p2) (q1, q2) (s.fnd ++ [(c0, dm)])), dq D s.J (s.fnd ++ [(c0, dm)]).length) } (eK E r rm s.ph s.I s.J 0 s.dirty hv (.slice none 0 0) cv b lk) (dT b S hv (.slice none 0 0) cv s.hot [] (s.ch.set s.I (bt.cz V s.J (fw (p1, p2) (q1, q2) (s.fnd ++ [(c0, dm)])), dq D s.J (s.fnd ++ [(c0, dm)]).length))) := ⟨hv, _, cv, b, S, lk, hS, cY, (fun h => absurd (hb.symm.trans (show s.ph = 3 from h)) (by decide)), rfl, rfl⟩
      have nB : bJ (dT b S hv (.slice none 0 0) cv s.hot [] s.ch) 3 ⟨53, 2, cv, s.ch.length, eO (eQ s.ch) ((s.I : Int).toNat * 2) [.p (cx 2 (bt.cz V s.J (fw (p1, p2) (q1, q2) (s.fnd ++ [(c0, dm)]))).length (b8 (bt.cz V s.J (fw (p1, p2) (q1, q2) (s.fnd ++ [(c0, dm)]))))), .p (cx 1 (dq D s.J (s.fnd ++ [(c0, dm)]).length).length (cy (dq D s.J (s.fnd ++ [(c0, dm)]).length)))]⟩ = dT b S hv (.slice none 0 0) cv s.hot [] (s.ch.set s.I (bt.cz V s.J (fw (p1, p2) (q1, q2) (s.fnd ++ [(c0, dm)])), dq D s.J (s.fnd ++ [(c0, dm)]).length)) := by
        rw [Mf rfl bp, show s.ch.length = (s.ch.set s.I (bt.cz V s.J (fw (p1, p2) (q1, q2) (s.fnd ++ [(c0, dm)])), dq D s.J (s.fnd ++ [(c0, dm)]).length)).length from (List.length_set ..).symm];exact RJ
      generalize IG : bt.cz V s.J (fw (p1, p2) (q1, q2) (s.fnd ++ [(c0, dm)])) = nY at *;generalize IH : dq D s.J (s.fnd ++ [(c0, dm)]).length = lK at *;generalize Oz : fw (p1, p2) (q1, q2) (s.fnd ++ [(c0, dm)]) = L' at *;(repeat first | (with_reducible apply l5 (id := 12) [0,1,2,3,4,5,6,7,8,9,10,11,12,13,14,15,16,17,18,19,20,21,22,23,24,25,26,27,28,29,30,31,32] [4000000]); kernel_rfl; kernel_rfl; exact rfl | (with_reducible first | apply bb | apply aV | apply a8 | apply aX | apply dc) | (with_reducible apply c4); exact rfl; (exact b5 (by omega)) | (with_reducible apply aO); exact rfl; (repeat first | (with_reducible apply az); exact rfl | (with_reducible apply df); (iterate 3 exact rfl) | (with_reducible apply c6); (iterate 3 exact rfl) | refine dP rfl rfl rfl rfl (by (first | exact fo | exact nS | exact yT)) rfl ?_ | refine kt rfl rfl rfl rfl rfl (by (exact F6)) rfl ?_); (with_reducible apply aA) | (with_reducible apply j9 3); (iterate 4 exact rfl); (omega); (assumption); exact rfl; kernel_rfl; exact rfl);refine Av 3 rfl rfl rfl rfl i2 rfl rfl jW.1 rfl ?_;(repeat first | (with_reducible apply eD); kernel_rfl | (with_reducible first | apply aV | apply a8 | apply aX) | (with_reducible apply aO); exact rfl; (repeat first | (with_reducible apply az); exact rfl | (with_reducible apply df); (iterate 3 exact rfl)); (with_reducible apply aA))
      ((refine eW rfl bf rfl (bL.of_eq nB.symm) fX.closed rfl ft ?_))
      exact ⟨_, rfl, rfl, fX⟩
  | false =>
    rw [vX] at b6;have Ha : jZ (bx E r rm) (p1, p2) (q1, q2) (c0, dm) s.fnd = s.fnd := by unfold jZ; rw [vX]; rfl
    rw [Ha] at split ⊢;have aiS := ee
    by_cases ca : s.fnd = []
    · clear split xZ vX
      have dl : ({ s with fnd := s.fnd } : bt.aN aq) = s := rfl;have aJ : (s.fnd.length : Int) = 0 := by rw [ca]; rfl
      have fp := O5 (E := E) (r := r) (rm := rm) (s := { s with T := 0, fnd := [], J := s.J + 1 }) hd rfl ak bp (by show s.J + 1 ≤ 1100; omega) hb;have lT : dC E r rm { s with T := 0, fnd := [], J := s.J + 1 } (eK E r rm s.ph s.I ((s.J : Int) + 1) 0 s.dirty hv fv cv b lk) (dT b S hv fv cv s.hot s.fnd s.ch) := ⟨hv, fv, cv, b, S, lk, hS, cY, gu, rfl, by rw [ca]⟩
      by_cases uo : s.T + 1 < s.hot.length
      · rw [if_pos uo]
        have zV : (s.T : Int) + 1 < (s.hot.length : Int) := by omega
        have fX : dC E r rm { s with fnd := s.fnd, T := s.T + 1 } (eK E r rm s.ph s.I s.J ((s.T : Int) + 1) s.dirty hv fv cv b lk) (dT b S hv fv cv s.hot s.fnd s.ch) := ⟨hv, fv, cv, b, S, lk, hS, cY, gu, rfl, rfl⟩;refine dv (f := 67) Tryz.func67 rfl (du rfl) (by exact eB rfl) ?_;(repeat first | (with_reducible apply eD); kernel_rfl | (with_reducible apply dU (id := 1) [10,0,1,2,3,4,5,6,7,8,9,11]); kernel_rfl; kernel_rfl; exact rfl | (with_reducible apply dU (id := 2) [6,0,1,2,3,4,5,7]); kernel_rfl; kernel_rfl; exact rfl | (with_reducible apply dU (id := 3) [10,0,1,2,3,4,5,6,7,8,9,11]); kernel_rfl; kernel_rfl; exact rfl | (with_reducible apply dU (id := 4) [0,1,2,3,4,5,6]); kernel_rfl; kernel_rfl; exact rfl | (with_reducible apply dU (id := 7) [0,1,2,3,4,5,6,7,8,9]); kernel_rfl; kernel_rfl; exact rfl | (with_reducible first | apply bb | apply aV | apply a8 | apply aX | apply dM | apply dc | apply kH) | (with_reducible apply eo); exact rfl; (exact bF (by omega)) | (with_reducible apply c4); exact rfl; (exact rfl) | (with_reducible apply aO); exact rfl; (repeat first | (with_reducible apply az); exact rfl | (with_reducible apply df); (iterate 3 exact rfl) | (with_reducible apply fh); (iterate 3 exact rfl); (exact cZ (by omega)); exact rfl | refine dP rfl rfl rfl rfl (by (exact aP)) rfl ?_ | refine kt rfl rfl rfl rfl rfl (by (exact b6)) rfl ?_); (with_reducible apply aA) | (with_reducible apply oj 1); (iterate 4 exact rfl); kernel_rfl; exact rfl | (with_reducible apply j9 1); (iterate 4 exact rfl); (omega); (assumption); exact rfl; kernel_rfl; exact rfl | (with_reducible apply j9 3); (iterate 4 exact rfl); (omega); (assumption); exact rfl; kernel_rfl; exact rfl | (with_reducible apply ol 1); (iterate 3 exact rfl); (assumption); assumption; exact rfl; kernel_rfl; exact rfl | (with_reducible apply ol 3); (iterate 3 exact rfl); (assumption); assumption; exact rfl; kernel_rfl; exact rfl)
        ((refine eW rfl bf rfl (bL.refl _) fX.closed rfl ft ?_))
        exact ⟨_, rfl, rfl, fX⟩
      · rw [if_neg uo, if_pos ca]
        have zV : ¬ (s.T : Int) + 1 < (s.hot.length : Int) := by omega
        refine dv (f := 67) Tryz.func67 rfl (du rfl) (by exact eB rfl) ?_;(repeat first | (with_reducible apply eD); kernel_rfl | (with_reducible apply dU (id := 1) [10,0,1,2,3,4,5,6,7,8,9,11]); kernel_rfl; kernel_rfl; exact rfl | (with_reducible apply dU (id := 2) [6,0,1,2,3,4,5,7]); kernel_rfl; kernel_rfl; exact rfl | (with_reducible apply dU (id := 3) [10,0,1,2,3,4,5,6,7,8,9,11]); kernel_rfl; kernel_rfl; exact rfl | (with_reducible apply dU (id := 4) [0,1,2,3,4,5,6]); kernel_rfl; kernel_rfl; exact rfl | (with_reducible apply dU (id := 7) [0,1,2,3,4,5,6,7,8,9]); kernel_rfl; kernel_rfl; exact rfl | (with_reducible first | apply bb | apply aV | apply a8 | apply aX | apply dc) | (with_reducible apply eo); exact rfl; (exact bF (by omega)) | (with_reducible apply c4); exact rfl; (first | exact b5 (by omega) | exact rfl) | (with_reducible apply aO); exact rfl; (repeat first | (with_reducible apply az); exact rfl | (with_reducible apply df); (iterate 3 exact rfl) | (with_reducible apply fh); (iterate 3 exact rfl); (exact cZ (by omega)); exact rfl | refine dP rfl rfl rfl rfl (by (exact aP)) rfl ?_ | refine kt rfl rfl rfl rfl rfl (by (exact b6)) rfl ?_); (with_reducible apply aA) | (with_reducible apply oj 1); (iterate 4 exact rfl); kernel_rfl; exact rfl | (with_reducible apply oj 2); (iterate 4 exact rfl); kernel_rfl; exact rfl | (with_reducible apply j9 1); (iterate 4 exact rfl); (omega); (assumption); exact rfl; kernel_rfl; exact rfl | (with_reducible apply j9 3); (iterate 4 exact rfl); (omega); (assumption); exact rfl; kernel_rfl; exact rfl | (with_reducible apply ol 1); (iterate 3 exact rfl); (assumption); assumption; exact rfl; kernel_rfl; exact rfl | (with_reducible apply ol 3); (iterate 3 exact rfl); (assumption); assumption; exact rfl; kernel_rfl; exact rfl);refine iz rfl rfl rfl rfl rfl rfl rfl rfl fp lT (fun au aC HH => ?_);(repeat first | (with_reducible first | apply aV | apply aX | apply dM | apply kH));obtain ⟨Ec, Dw, C5, dQ, vr, EA, DF, DX, DW, rfl, rfl⟩ := id HH
        ((refine eW rfl bf rfl (bL.refl _) HH.closed rfl ft ?_))
        exact ⟨_, rfl, rfl, HH⟩
    obtain ⟨yT, F6⟩ := split _ rfl ca (by omega);clear split xZ vX;refine dv (f := 67) Tryz.func67 rfl (du rfl) (by exact eB rfl) ?_;(repeat first | (with_reducible apply eD); kernel_rfl | (with_reducible apply dU (id := 1) [10,0,1,2,3,4,5,6,7,8,9,11]); kernel_rfl; kernel_rfl; exact rfl | (with_reducible apply dU (id := 2) [6,0,1,2,3,4,5,7]); kernel_rfl; kernel_rfl; exact rfl | (with_reducible apply dU (id := 3) [10,0,1,2,3,4,5,6,7,8,9,11]); kernel_rfl; kernel_rfl; exact rfl | (with_reducible apply dU (id := 4) [0,1,2,3,4,5,6]); kernel_rfl; kernel_rfl; exact rfl | (with_reducible apply dU (id := 7) [0,1,2,3,4,5,6,7,8,9]); kernel_rfl; kernel_rfl; exact rfl | (with_reducible first | apply bb | apply aV | apply a8 | apply aX | apply dc) | (with_reducible apply c4); exact rfl; (exact rfl) | (with_reducible apply aO); exact rfl; (repeat first | (with_reducible apply az); exact rfl | (with_reducible apply df); (iterate 3 exact rfl) | (with_reducible apply fh); (iterate 3 exact rfl); (exact cZ (by omega)); exact rfl | refine dP rfl rfl rfl rfl (by (exact aP)) rfl ?_ | refine kt rfl rfl rfl rfl rfl (by (exact b6)) rfl ?_); (with_reducible apply aA) | (with_reducible apply oj 1); (iterate 4 exact rfl); kernel_rfl; exact rfl | (with_reducible apply j9 1); (iterate 4 exact rfl); (omega); (assumption); exact rfl; kernel_rfl; exact rfl | (with_reducible apply j9 3); (iterate 4 exact rfl); (omega); (assumption); exact rfl; kernel_rfl; exact rfl | (with_reducible apply ol 1); (iterate 3 exact rfl); (assumption); assumption; exact rfl; kernel_rfl; exact rfl | (with_reducible apply ol 3); (iterate 3 exact rfl); (assumption); assumption; exact rfl; kernel_rfl; exact rfl)
    by_cases uo : s.T + 1 < s.hot.length
    · rw [if_pos uo]
      have zV : (s.T : Int) + 1 < (s.hot.length : Int) := by omega
      have fX : dC E r rm { s with fnd := s.fnd, T := s.T + 1 } (eK E r rm s.ph s.I s.J ((s.T : Int) + 1) s.dirty hv fv cv b lk) (dT b S hv fv cv s.hot (s.fnd) s.ch) := ⟨hv, fv, cv, b, S, lk, hS, cY, gu, rfl, rfl⟩;(repeat first | (with_reducible first | apply dM | apply kH) | (with_reducible apply eo); exact rfl; (exact bF (by omega)))
      ((refine eW rfl bf rfl (bL.refl _) fX.closed rfl ft ?_))
      exact ⟨_, rfl, rfl, fX⟩
    · rw [if_neg uo, if_neg ca]
      have zV : ¬ (s.T : Int) + 1 < (s.hot.length : Int) := by omega
      have D3 : ¬ ((s.fnd).length : Int) = 0 := fun h => ca (mE (by omega));refine FC 2 1000 9 (hO fv (s.fnd)) rfl rfl rfl ?_;refine mF 2 59 2 rfl ?_
      refine wR (dT b S hv (.slice none 0 0) cv s.hot [] s.ch) (fun k q ae => by
        match k with
        | 0 => exact ae
        | 1 => exact ae
        | 2 => exact ae
        | 3 => exact ae
        | k + 4 => cases ae) ?_
      have fX : dC E r rm { s with T := 0, fnd := [], ch := s.ch.set s.I (bt.cz V s.J (fw (p1, p2) (q1, q2) (s.fnd)), dq D s.J (s.fnd).length) } (eK E r rm s.ph s.I s.J 0 s.dirty hv (.slice none 0 0) cv b lk) (dT b S hv (.slice none 0 0) cv s.hot [] (s.ch.set s.I (bt.cz V s.J (fw (p1, p2) (q1, q2) (s.fnd)), dq D s.J (s.fnd).length))) := ⟨hv, _, cv, b, S, lk, hS, cY, (fun h => absurd (hb.symm.trans (show s.ph = 3 from h)) (by decide)), rfl, rfl⟩
      have nB : bJ (dT b S hv (.slice none 0 0) cv s.hot [] s.ch) 3 ⟨53, 2, cv, s.ch.length, eO (eQ s.ch) ((s.I : Int).toNat * 2) [.p (cx 2 (bt.cz V s.J (fw (p1, p2) (q1, q2) (s.fnd))).length (b8 (bt.cz V s.J (fw (p1, p2) (q1, q2) (s.fnd))))), .p (cx 1 (dq D s.J (s.fnd).length).length (cy (dq D s.J (s.fnd).length)))]⟩ = dT b S hv (.slice none 0 0) cv s.hot [] (s.ch.set s.I (bt.cz V s.J (fw (p1, p2) (q1, q2) (s.fnd)), dq D s.J (s.fnd).length)) := by
        rw [Mf rfl bp, show s.ch.length = (s.ch.set s.I (bt.cz V s.J (fw (p1, p2) (q1, q2) s.fnd), dq D s.J s.fnd.length)).length from (List.length_set ..).symm];exact RJ
      generalize IG : bt.cz V s.J (fw (p1, p2) (q1, q2) (s.fnd)) = nY at *;generalize IH : dq D s.J (s.fnd).length = lK at *;generalize Oz : fw (p1, p2) (q1, q2) (s.fnd) = L' at *;(repeat first | (with_reducible apply l5 (id := 12) [0,1,2,3,4,5,6,7,8,9,10,11,12,13,14,15,16,17,18,19,20,21,22,23,24,25,26,27,28,29,30,31,32] [4000000]); kernel_rfl; kernel_rfl; exact rfl | (with_reducible first | apply bb | apply aV | apply a8 | apply aX | apply dc) | (with_reducible apply c4); exact rfl; (exact b5 (by omega)) | (with_reducible apply aO); exact rfl; (repeat first | (with_reducible apply az); exact rfl | (with_reducible apply df); (iterate 3 exact rfl) | (with_reducible apply c6); (iterate 3 exact rfl) | refine dP rfl rfl rfl rfl (by (first | exact fo | exact nS | exact yT)) rfl ?_ | refine kt rfl rfl rfl rfl rfl (by (exact F6)) rfl ?_); (with_reducible apply aA) | (with_reducible apply j9 3); (iterate 4 exact rfl); (omega); (assumption); exact rfl; kernel_rfl; exact rfl);refine Av 3 rfl rfl rfl rfl i2 rfl rfl jW.1 rfl ?_;(repeat first | (with_reducible apply eD); kernel_rfl | (with_reducible first | apply aV | apply a8 | apply aX) | (with_reducible apply aO); exact rfl; (repeat first | (with_reducible apply az); exact rfl | (with_reducible apply df); (iterate 3 exact rfl)); (with_reducible apply aA))
      ((refine eW rfl bf rfl (bL.of_eq nB.symm) fX.closed rfl ft ?_))
      exact ⟨_, rfl, rfl, fX⟩
end
section
variable {P : Program} {R : aL} {s : aE} {ops : Array Oper} {dr : Option (List Nat)} {ty : Nat} {pos : String} {after : Array Edge} {guard : Option (Nat × Bool)} {K : aL → aE → Prop} {rest : List Oper}
theorem D8 {bs : List Value} {dst : Option Nat} {f : FuncId} {g : Operand} {aS : Array TypeId} {l : List Operand} {args : List ai} {m0 : Mem} {R0 : aL} {Post : ai → Mem → aL → Prop} [E : Enters P f] (hw : want ops ⟨dst, .call ⟨.value g, l.toArray, aS⟩, ty, pos, after, guard⟩ s = some true) (hm : dE dr ⟨dst, .call ⟨.value g, l.toArray, aS⟩, ty, pos, after, guard⟩ = true)
  (ax : s.look g = some (aU (.func (.func f) bs.toArray #[]))) (ab : bs.all CO = true) (aI : bs.map (fun b => some (yp b)) ++ l.map s.look = args.map some) (hp : dk P f args m0 R0 Post) (aB : ∀ x ∈ args, ∀ j, x.owns j → ∃ cs, m0 j = some cs) (qm : ∀ k cs, m0 k = some cs → s.mem k = some cs ∧ (pD dr k = true ∨ ∀ r aK aC, Post r aK aC → aK k = some cs)) (al : bL R0 R) (gb : ∀ k cs x j, m0 k = some cs → x ∈ cs → x.owns j → ∃ au, m0 j = some au) (hd : li dst s.n = true)
  (h : ∀ r aK aC, Post r aK aC → (∀ k au, aK k = some au → (∃ cs, m0 k = some cs) ∨ (s.mem k = none ∧ k < s.n)) ∧ cQ P ops dr K rest (b9 aC R) ((s.over aK).put dst r)) : cQ P ops dr K (⟨dst, .call ⟨.value g, l.toArray, aS⟩, ty, pos, after, guard⟩ :: rest) R s := by
 refine ⟨true, hw, MG hd, .inr (.inr (.inr (.inr (.inl ⟨rfl, hm, f, args, m0, R0, Post, ⟨⟨_, g, rfl, rfl, .inl ⟨bs, ax, ?_, ab⟩⟩, E.h⟩, hp, aB, qm, al, gb, fun r aK aC h1 _ _ _ => h r aK aC h1⟩))))⟩;simpa using aI
theorem Vw (g e off : Nat) (cs : List AC) : nK g off = jQ (jg g e cs).v off := by
 show nK g off = .pointer (some ((⟨g, 0, none⟩ : Addr).add off));rw [CD, ju]
theorem uE {x : Operand} {d lt off g e : Nat} {cs : List AC} {c1 : AC} (i : Nat) [T : gn P lt false 1] (hi : R i = some (jg g e cs)) (hw : want ops ⟨some d, .load lt x, ty, pos, after, guard⟩ s = some true) (aa : s.look x = some (aU (nK g off))) (a6 : cs[off]? = some c1) (ak : (ai.w (.one c1)).bd = true) (al : u5 ops dr (some d) = true) (hd : Nat.blt d s.n = true) (h : cQ P ops dr K rest R (s.put (some d) (.w (.one c1)))) : cQ P ops dr K (⟨some d, .load lt x, ty, pos, after, guard⟩ :: rest) R s :=
 Ar i hi hw (by rw [aa, Vw g e off cs]) Nat.one_pos a6 ak al hd h
end
theorem z1 {P : Program} {fn : Func} {l : List ResultVar} {xs : List bK} {R R0 bl : aL} {s : aE} {Post : ai → Mem → aL → Prop} (al : fn.results = l.toArray) (h : l.map (iZ P s) = xs.map some) (ay : bL bl R) (aa : (packed xs).bd = true) (aJ : ∀ i r, R0 i = some r → ∃ ba, bl i = some ba) (hp : Post (packed xs) cm bl) : uw P fn cm R0 Post R s :=
 ⟨xs, packed xs, cm, bl, by rw [al]; exact h, .refl _, hp, fun k c h => (by cases h), ay, fun j af => absurd af (ai.dI aa j), fun k c x j h => (by cases h), fun k c h => (by cases h), aJ⟩
theorem dC.oR {E : List (Int × bV)} {r rm : Nat} {s : bt.aN aq} {cs : List AC} {R : aL} (h : dC E r rm s cs R) : R 9 = none ∧ cs.all AC.bd = true ∧ 0 < cs.length := by
 refine ⟨?_, h.closed, ?_⟩
 ·obtain ⟨_, _, _, _, _, _, _, _, _, _, rfl⟩ := h; rfl
 ·obtain ⟨_, _, _, _, _, _, _, _, _, rfl, _⟩ := h; exact jL _
section
variable {E : List (Int × bV)} {r rm : Nat}
theorem Fw {f : FuncId} {s s1 : bt.aN aq} {v : ai} {cs : List AC} {R : aL} (IF : v.bd = true) (hp : gz E r rm f [] s v s1) (bp : dC E r rm s cs R) (g e : Nat) : dk aj f [aU (eg g)] cm (bJ R 9 (jg g e cs)) fun ck aK aC => ∃ au bl bu, (ck = v ∧ dC E r rm s1 au bl) ∧ aK = cm ∧ aC = bJ bl 9 (jg g bu au) := by
 have h := (hp cs R bp).ag1 9 g e rfl bp.oR.2.1 bp.oR.2.2 bp.oR.1 (fun ck aK aC an => by
  obtain ⟨au, rfl, rfl, an⟩ := an;exact ⟨IF, an.oR.1, au, rfl, an.oR.2.1, an.oR.2.2⟩)
 refine ⟨fun U ad W vs cA ez dX => (h.call U ad W vs cA ez dX).mono ?_⟩;rintro dl bn ⟨v1, cN, aK, aC, bg, cK, db, ⟨au, bl, bu, ⟨tV, he, an⟩, rfl, rfl⟩, mB⟩
 have : tV = au := by
  have h1 : cO 1000 au 1000 = some au := by unfold cO; exact cw _ _ _
  rw [he] at h1;exact (h3 h1).2.symm
 subst this;exact ⟨v1, cN, cm, _, bg, cK, db, ⟨tV, bl, bu, an, rfl, rfl⟩, mB⟩
theorem Fv {f : FuncId} {args : List ai} {s s1 : bt.aN aq} {v : ai} (IF : v.bd = true) (et : args.all ai.bd = true) (h : ∀ cs R, dC E r rm s cs R → ∀ g e, dk aj f (aU (eg g) :: args) cm (bJ R 9 (jg g e cs)) fun ck aK aC => ∃ au bl bu, (ck = v ∧ dC E r rm s1 au bl) ∧ aK = cm ∧ aC = bJ bl 9 (jg g bu au)) : gz E r rm f args s v s1 := by
 intro cs R bp;refine dk.ag0 9 (fun g e => ?_) et bp.oR.2.1 bp.oR.2.2 bp.oR.1 (fun ck au aC an => ?_)
 ·refine ⟨fun U ad W vs cA ez dX => ((h cs R bp g e).call U ad W vs cA ez dX).mono ?_⟩;rintro dl bn ⟨v1, cN, aK, aC, bg, cK, db, ⟨au, bl, bu, an, rfl, rfl⟩, mB⟩;exact ⟨v1, cN, cm, _, bg, cK, db, ⟨au, bl, bu, ⟨au, rfl, an⟩, rfl, rfl⟩, mB⟩
 ·obtain ⟨tV, he, rfl, an⟩ := an
  have : tV = au := by
   have h1 : cO 1000 au 1000 = some au := by unfold cO; exact cw _ _ _
   rw [he] at h1;exact (h3 h1).2.symm
  subst this;exact ⟨IF, an.oR.1, an.oR.2.1, an.oR.2.2⟩
theorem Ft {s s1 : bt.aN aq} {cs au : List AC} {R aC : aL} {g e bu : Nat} (h : dC E r rm s cs R) (ar : dC E r rm s1 au aC) : ∀ i q, bJ R 9 (jg g e cs) i = some q → ∃ bT, bJ aC 9 (jg g bu au) i = some bT := by
 obtain ⟨_, _, _, _, _, _, _, _, _, _, rfl⟩ := h;obtain ⟨_, _, _, _, _, _, _, _, _, _, rfl⟩ := ar;intro i q an
 by_cases ra : i = 9
 ·subst ra; exact ⟨_, cw _ _ _⟩
 ·rw [cl _ _ ra] at an;obtain ⟨bT, og⟩ := ft i q an;exact ⟨bT, by rw [cl _ _ ra]; exact og⟩
theorem Fu {s s1 : bt.aN aq} {cs au : List AC} {R aC : aL} {g e bu : Nat} (h : dC E r rm s cs R) (ar : dC E r rm s1 au aC) : b9 (bJ aC 9 (jg g bu au)) (bJ R 9 (jg g e cs)) = bJ aC 9 (jg g bu au) := by
 have aB := h.b9 ar;funext i
 by_cases ra : i = 9
 ·subst ra; exact (h4 (cw _ _ _)).trans (cw _ _ _).symm
 ·have : b9 aC R i = aC i := congrFun aB i;unfold b9 at this ⊢;rw [cl _ _ ra, cl _ _ ra]; exact this
theorem abc {s s1 : bt.aN aq} (hb : s.ph = 0) (hp : gz E r rm 65 [] s l7 s1) : gz E r rm 23 [] s (bG true) s1 := by
 refine Fv rfl rfl fun cs R bp g e => ?_;have aP := Fw rfl hp bp g e;obtain ⟨ph, I, J, T, dirty, hot, fnd, ch⟩ := s;obtain rfl : ph = 0 := hb;obtain ⟨hv, fv, cv, b, S, lk, hS, cY, gu, rfl, rfl⟩ := id bp;refine dv (f := 23) Tryz.func23 rfl (du rfl) (by exact n3) ?_;(repeat first | (with_reducible first | apply bb | apply aV | apply a8 | apply aX) | (with_reducible apply aO); exact rfl; (repeat first | (with_reducible apply az); exact rfl | (with_reducible apply tO); (iterate 3 exact rfl) | (with_reducible apply tM); (iterate 3 exact rfl)); (with_reducible apply aA));refine uE 9 rfl rfl rfl rfl rfl rfl rfl ?_;(repeat first | (with_reducible first | apply bb | apply aV | apply a8 | apply aX | apply dc) | (with_reducible apply c4); exact rfl; ((simp only [hG]; (omega))) | (with_reducible apply aO); exact rfl; (repeat first | (with_reducible apply az); exact rfl | (with_reducible apply zf); (iterate 4 exact rfl) | (with_reducible apply tO); (iterate 3 exact rfl) | (with_reducible apply tM); (iterate 3 exact rfl)); (with_reducible apply aA));refine uE 9 rfl rfl rfl rfl rfl rfl rfl ?_;(repeat first | (with_reducible apply aO); exact rfl; (repeat first | (with_reducible apply az); exact rfl); (with_reducible apply aA));refine D8 (bs := [eg g]) (args := [aU (eg g)]) (l := []) rfl rfl rfl rfl rfl aP (fun x aa j af => by simp at aa; subst aa; exact absurd af (jq _ j)) (fun k c h => by cases h) (bL.refl _) (fun k c x j h => by cases h) rfl (fun ck aK aC an => ?_);obtain ⟨au, bl, bu, ⟨rfl, cp⟩, rfl, rfl⟩ := an;refine ⟨fun k c h => (by cases h), ?_⟩;rw [Fu bp cp, uY];(repeat first | (with_reducible first | apply bb | apply aV | apply a8 | apply aX | apply dM) | (with_reducible apply aO); exact rfl; (repeat first | (with_reducible apply az); exact rfl); (with_reducible apply aA))
 ((refine z1 rfl (bD rfl bf) (bL.refl _) rfl (Ft bp cp) ?_))
 exact ⟨au, bl, bu, ⟨rfl, cp⟩, rfl, rfl⟩
theorem abd {s s1 : bt.aN aq} (hb : s.ph = 1) (hp : gz E r rm 66 [] s l7 s1) : gz E r rm 23 [] s (bG true) s1 := by
 refine Fv rfl rfl fun cs R bp g e => ?_;have aP := Fw rfl hp bp g e;obtain ⟨ph, I, J, T, dirty, hot, fnd, ch⟩ := s;obtain rfl : ph = 1 := hb;obtain ⟨hv, fv, cv, b, S, lk, hS, cY, gu, rfl, rfl⟩ := id bp;refine dv (f := 23) Tryz.func23 rfl (du rfl) (by exact n3) ?_;(repeat first | (with_reducible first | apply bb | apply aV | apply a8 | apply aX) | (with_reducible apply aO); exact rfl; (repeat first | (with_reducible apply az); exact rfl | (with_reducible apply tO); (iterate 3 exact rfl) | (with_reducible apply tM); (iterate 3 exact rfl)); (with_reducible apply aA));refine uE 9 rfl rfl rfl rfl rfl rfl rfl ?_;(repeat first | (with_reducible first | apply bb | apply aV | apply a8 | apply aX | apply dc) | (with_reducible apply c4); exact rfl; ((simp only [hG]; (omega))) | (with_reducible apply aO); exact rfl; (repeat first | (with_reducible apply az); exact rfl | (with_reducible apply zf); (iterate 4 exact rfl) | (with_reducible apply tO); (iterate 3 exact rfl) | (with_reducible apply tM); (iterate 3 exact rfl)); (with_reducible apply aA));refine uE 9 rfl rfl rfl rfl rfl rfl rfl ?_;(repeat first | (with_reducible apply aO); exact rfl; (repeat first | (with_reducible apply az); exact rfl); (with_reducible apply aA));refine D8 (bs := [eg g]) (args := [aU (eg g)]) (l := []) rfl rfl rfl rfl rfl aP (fun x aa j af => by simp at aa; subst aa; exact absurd af (jq _ j)) (fun k c h => by cases h) (bL.refl _) (fun k c x j h => by cases h) rfl (fun ck aK aC an => ?_);obtain ⟨au, bl, bu, ⟨rfl, cp⟩, rfl, rfl⟩ := an;refine ⟨fun k c h => (by cases h), ?_⟩;rw [Fu bp cp, uY];(repeat first | (with_reducible first | apply bb | apply aV | apply a8 | apply aX | apply dM) | (with_reducible apply aO); exact rfl; (repeat first | (with_reducible apply az); exact rfl); (with_reducible apply aA))
 ((refine z1 rfl (bD rfl bf) (bL.refl _) rfl (Ft bp cp) ?_))
 exact ⟨au, bl, bu, ⟨rfl, cp⟩, rfl, rfl⟩
theorem abe {s s1 : bt.aN aq} (hb : s.ph = 2) (hp : gz E r rm 67 [] s l7 s1) : gz E r rm 23 [] s (bG true) s1 := by
 refine Fv rfl rfl fun cs R bp g e => ?_;have aP := Fw rfl hp bp g e;obtain ⟨ph, I, J, T, dirty, hot, fnd, ch⟩ := s;obtain rfl : ph = 2 := hb;obtain ⟨hv, fv, cv, b, S, lk, hS, cY, gu, rfl, rfl⟩ := id bp;refine dv (f := 23) Tryz.func23 rfl (du rfl) (by exact n3) ?_;(repeat first | (with_reducible first | apply bb | apply aV | apply a8 | apply aX) | (with_reducible apply aO); exact rfl; (repeat first | (with_reducible apply az); exact rfl | (with_reducible apply tO); (iterate 3 exact rfl) | (with_reducible apply tM); (iterate 3 exact rfl)); (with_reducible apply aA));refine uE 9 rfl rfl rfl rfl rfl rfl rfl ?_;(repeat first | (with_reducible first | apply bb | apply aV | apply a8 | apply aX | apply dc) | (with_reducible apply c4); exact rfl; ((simp only [hG]; (omega))) | (with_reducible apply aO); exact rfl; (repeat first | (with_reducible apply az); exact rfl | (with_reducible apply zf); (iterate 4 exact rfl) | (with_reducible apply tO); (iterate 3 exact rfl) | (with_reducible apply tM); (iterate 3 exact rfl)); (with_reducible apply aA));refine uE 9 rfl rfl rfl rfl rfl rfl rfl ?_;(repeat first | (with_reducible apply aO); exact rfl; (repeat first | (with_reducible apply az); exact rfl); (with_reducible apply aA));refine D8 (bs := [eg g]) (args := [aU (eg g)]) (l := []) rfl rfl rfl rfl rfl aP (fun x aa j af => by simp at aa; subst aa; exact absurd af (jq _ j)) (fun k c h => by cases h) (bL.refl _) (fun k c x j h => by cases h) rfl (fun ck aK aC an => ?_);obtain ⟨au, bl, bu, ⟨rfl, cp⟩, rfl, rfl⟩ := an;refine ⟨fun k c h => (by cases h), ?_⟩;rw [Fu bp cp, uY];(repeat first | (with_reducible first | apply bb | apply aV | apply a8 | apply aX | apply dM) | (with_reducible apply aO); exact rfl; (repeat first | (with_reducible apply az); exact rfl); (with_reducible apply aA))
 ((refine z1 rfl (bD rfl bf) (bL.refl _) rfl (Ft bp cp) ?_))
 exact ⟨au, bl, bu, ⟨rfl, cp⟩, rfl, rfl⟩
theorem abf {s s1 : bt.aN aq} (hb : s.ph = 3) (hp : gz E r rm 68 [] s l7 s1) : gz E r rm 23 [] s (bG true) s1 := by
 refine Fv rfl rfl fun cs R bp g e => ?_;have aP := Fw rfl hp bp g e;obtain ⟨ph, I, J, T, dirty, hot, fnd, ch⟩ := s;obtain rfl : ph = 3 := hb;obtain ⟨hv, fv, cv, b, S, lk, hS, cY, gu, rfl, rfl⟩ := id bp;refine dv (f := 23) Tryz.func23 rfl (du rfl) (by exact n3) ?_;(repeat first | (with_reducible first | apply bb | apply aV | apply a8 | apply aX) | (with_reducible apply aO); exact rfl; (repeat first | (with_reducible apply az); exact rfl | (with_reducible apply tO); (iterate 3 exact rfl) | (with_reducible apply tM); (iterate 3 exact rfl)); (with_reducible apply aA));refine uE 9 rfl rfl rfl rfl rfl rfl rfl ?_;(repeat first | (with_reducible first | apply bb | apply aV | apply a8 | apply aX | apply dc) | (with_reducible apply c4); exact rfl; ((simp only [hG]; (omega))) | (with_reducible apply aO); exact rfl; (repeat first | (with_reducible apply az); exact rfl | (with_reducible apply zf); (iterate 4 exact rfl) | (with_reducible apply tO); (iterate 3 exact rfl) | (with_reducible apply tM); (iterate 3 exact rfl)); (with_reducible apply aA));refine uE 9 rfl rfl rfl rfl rfl rfl rfl ?_;(repeat first | (with_reducible apply aO); exact rfl; (repeat first | (with_reducible apply az); exact rfl); (with_reducible apply aA));refine D8 (bs := [eg g]) (args := [aU (eg g)]) (l := []) rfl rfl rfl rfl rfl aP (fun x aa j af => by simp at aa; subst aa; exact absurd af (jq _ j)) (fun k c h => by cases h) (bL.refl _) (fun k c x j h => by cases h) rfl (fun ck aK aC an => ?_);obtain ⟨au, bl, bu, ⟨rfl, cp⟩, rfl, rfl⟩ := an;refine ⟨fun k c h => (by cases h), ?_⟩;rw [Fu bp cp, uY];(repeat first | (with_reducible first | apply bb | apply aV | apply a8 | apply aX | apply dM) | (with_reducible apply aO); exact rfl; (repeat first | (with_reducible apply az); exact rfl); (with_reducible apply aA))
 ((refine z1 rfl (bD rfl bf) (bL.refl _) rfl (Ft bp cp) ?_))
 exact ⟨au, bl, bu, ⟨rfl, cp⟩, rfl, rfl⟩
theorem O0 {s : bt.aN aq} (hb : 4 ≤ s.ph) (ai9 : s.ph ≤ 5) : gz E r rm 23 [] s (bG false) s := by
 intro cs R bp;obtain ⟨hv, fv, cv, b, S, lk, hS, cY, gu, rfl, rfl⟩ := id bp;have aH : (s.ph : Int) ≥ 4 := by omega
 refine dv (f := 23) Tryz.func23 rfl (du rfl) (by exact eB rfl) ?_;(repeat first | (with_reducible first | apply bb | apply aV | apply a8 | apply aX | apply dM | apply kH) | (with_reducible apply eo); exact rfl; (exact bF (by omega)) | (with_reducible apply aO); exact rfl; (repeat first | (with_reducible apply az); exact rfl | (with_reducible apply df); (iterate 3 exact rfl)); (with_reducible apply aA))
 ((refine eW rfl (bD rfl bf) rfl (bL.refl _) bp.closed rfl ft ?_))
 exact ⟨_, rfl, rfl, bp⟩
end
section
variable {E : List (Int × bV)} {r rm : Nat}
abbrev nt (E : List (Int × bV)) (r rm : Nat) (s : bt.aN aq) : Prop := hB (bx E r rm) (yq (E.map Prod.snd) r) s
structure hE (E : List (Int × bV)) (r rm : Nat) : Prop where
 r : r ≤ 28
 near : fK (E.map Prod.snd) = true
 len : E.length ≤ 300
 pos : 1 ≤ rm
 room : rm ≤ 1024
theorem hE.ok (h : hE E r rm) : gT (bx E r rm) (yq (E.map Prod.snd) r) := afE h.r h.near
theorem hE.n (E : List (Int × bV)) (r rm : Nat) : (bx E r rm).n = E.length := jK ..
theorem hE.xz (h : hE E r rm) {s : bt.aN aq} (ab : gK (bx E r rm) s) (ap : kp (bx E r rm) (yq (E.map Prod.snd) r) s) : kM s.ch := by
 have hlen := ap.len;rw [hE.n] at hlen;refine ⟨by have := h.len; omega, fun c ak => ?_⟩;obtain ⟨i, hi⟩ := kA ak;have h1 := (MC h.ok ab ap ak).1;have h2 : (bx E r rm).R = rm := rfl;have := h.room;exact ⟨(ap.gq i c hi).len, by omega⟩
theorem hE.hot (h : hE E r rm) {s : bt.aN aq} (ab : gK (bx E r rm) s) : s.hot.length ≤ 1024 := by
 have h1 := ab.room;have h2 : (bx E r rm).R = rm := rfl;have := h.room;omega
theorem I1 {s : bt.aN aq} (h : hE E r rm) (bp : nt E r rm s) : gz E r rm 23 [] s (bG (decide (s.ph < 4))) (dV (bx E r rm) s) := by
 obtain ⟨ab, aJ | h1 | h2 | ao | aH | cM⟩ := bp
 ·have e : dV (bx E r rm) s = qb (bx E r rm) s := by simp only [dV, aJ.ph]
  rw [e, aJ.ph];have hi := aJ.I;rw [hE.n] at hi;exact abc aJ.ph (abh h.r h.near h.len hi aJ.dirty aJ.fnd (h.hot ab) aJ.ph)
 ·have e : dV (bx E r rm) s = qy (bx E r rm) s := by simp only [dV, h1.ph]
  rw [e, h1.ph];have hi := h1.J;rw [hE.n] at hi;exact abd h1.ph (abj h.r h.near h.len h1.vi hi h1.dirty h1.fnd (h.hot ab) h1.ph)
 ·obtain ⟨c, p, q, g1, g2, g3, aw⟩ := h2.link;have g4 := cj h2.T;generalize s.hot[s.T]'h2.T = x at g4
  have e : dV (bx E r rm) s = pe (bx E r rm) s c p q (jZ (bx E r rm) p q x s.fnd) := by
   simp only [dV, h2.ph, tr, g1, g2, g3, g4]
  rw [e, h2.ph];have ak := h2.laid.gq _ _ g1;have hd := MC h.ok ab h2.laid (dL g1);have ay : (bx E r rm).R = rm := rfl;have aje := h.room;obtain ⟨V, D⟩ := c;have hp := ab.fW _ (ak.hot p (dL g2));have an := ab.fW _ (ak.hot q (dL g3));have aW := h.hot ab
  have xZ : (jZ (bx E r rm) p q x s.fnd) = (s.hot.take (s.T + 1)).filter (fF (bx E r rm) p q) := by
   rw [Hl g4, aw];unfold jZ
   split <;> simp [*]
  refine abe h2.ph (abk h.r (h.xz ab h2.laid) g1 g2 g3 g4 (fun d sH => ?_) hp an h2.dirty aW ?_ ?_ h2.ph)
  ·have := hd.2 d sH; omega
  ·rw [aw];refine lC (List.length_filter_le ..) ?_;rw [eu]; omega
  ·rw [xZ];exact (ab.nd.sublist (List.take_sublist ..)).filter _
 ·have e : dV (bx E r rm) s = pf (bx E r rm) s := by simp only [dV, ao.ph]
  rw [e, ao.ph];have ak := h.xz ab ao.laid;refine abf ao.ph (abi h.r ak ?_ ao.vi ao.J (fun l ap => ?_) ao.fnd (h.hot ab) ao.ph)
  ·have := ao.J;cases Y2 : s.ch with
   | nil => rw [Y2] at this; simp [aQ] at this
   | cons => exact jL _
  ·obtain ⟨_, a1, a2⟩ := Ez h.ok ao.laid ap;exact ⟨ab.fW _ a1, ab.fW _ a2⟩
 ·have e : dV (bx E r rm) s = s := by simp only [dV, aH.ph]
  rw [e, aH.ph];exact O0 (by rw [aH.ph]; decide) (by rw [aH.ph]; decide)
 ·have e : dV (bx E r rm) s = s := by simp only [dV, cM.ph]
  rw [e, cM.ph];exact O0 (by rw [cM.ph]; decide) (by rw [cM.ph]; decide)
end
section
variable {E : List (Int × bV)} {r rm : Nat}
theorem Eo {s : bt.aN aq} : gz E r rm 24 [] s (aR s.ph) s := by
 intro cs R bp;obtain ⟨hv, fv, cv, b, S, lk, hS, cY, gu, rfl, rfl⟩ := id bp;refine dv (f := 24) Tryz.func24 rfl (du rfl) (by exact eB rfl) ?_;(repeat first | (with_reducible first | apply bb | apply aV | apply a8 | apply aX | apply dM) | (with_reducible apply aO); exact rfl; (repeat first | (with_reducible apply az); exact rfl | (with_reducible apply df); (iterate 3 exact rfl)); (with_reducible apply aA))
 ((refine eW rfl (bD rfl bf) rfl (bL.refl _) bp.closed rfl ft ?_))
 exact ⟨_, rfl, rfl, bp⟩
def TY (E : List (Int × bV)) (r rm : Nat) (n : Int) (s : bt.aN aq) (k : Nat) (R : aL) (aS : List (Nat × ai)) (bw : List (Nat × List AC)) : Prop :=
 ∃ (d : Nat) (s1 : bt.aN aq) (hv fv cv : Value) (b : Nat) (S : ff) (lk : AC), k = n.toNat - d ∧ d ≤ n.toNat ∧ nt E r rm s1 ∧ eT (bx E r rm) n.toNat s = ((eT (bx E r rm) k s1).1 + d, (eT (bx E r rm) k s1).2) ∧ dC E r rm s1 (eK E r rm s1.ph s1.I s1.J s1.T s1.dirty hv fv cv b lk) (dT b S hv fv cv s1.hot s1.fnd s1.ch) ∧ lk.bd = true ∧ R = dT b S hv fv cv s1.hot s1.fnd s1.ch ∧ aS = [(0, rU), (1, aR n), (5, aR d)] ∧ bw = [(1000, eK E r rm s1.ph s1.I s1.J s1.T s1.dirty hv fv cv b lk)]
theorem Ep {s : bt.aN aq} (h : hE E r rm) (hs : nt E r rm s) {n : Int} (aD : n ≤ 1000000000000) : gz E r rm 41 [aR n] s (aR (eT (bx E r rm) n.toNat s).1) (eT (bx E r rm) n.toNat s).2 := by
 intro cs R bp;obtain ⟨hv, fv, cv, b, S, lk, hS, cY, gu, rfl, rfl⟩ := id bp;refine dv (f := 41) Tryz.func41 rfl (du rfl) (by exact eB rfl) ?_;(repeat first | (with_reducible first | apply bb | apply aV | apply a8 | apply aX | apply fu) | (with_reducible apply aO); exact rfl; (repeat first | (with_reducible apply az); exact rfl); (with_reducible apply aA));refine k7 16 (TY E r rm n s) n.toNat (dT b S hv fv cv s.hot s.fnd s.ch) _ [(1000, eK E r rm s.ph s.I s.J s.T s.dirty hv fv cv b lk)] ⟨0, s, hv, fv, cv, b, S, lk, rfl, eF _, hs, rfl, bp, cY, rfl, rfl, rfl⟩ (bL.refl _) rfl ⟨rfl, rfl, rfl, trivial⟩ ⟨rfl, trivial⟩ ?_ ?_
 ·cases lk <;> first | rfl | cases cY
 clear bp hS cY gu;rintro k R aS bw ⟨d, s1, hv, fv, cv, b, S, lk, rfl, hd, o7, hc, bp, cY, rfl, rfl, rfl⟩ dK;clear dK
 by_cases bh : d < n.toNat
 ·have q1 : (d : Int) < n := by omega
  have db : (0 : Int) ≤ (d : Int) := by omega
  obtain ⟨bC, rp⟩ : ∃ bC, n.toNat - d = bC + 1 := ⟨n.toNat - d - 1, by omega⟩;have aP := I1 h o7;have hinv := (wW h.ok o7)
  by_cases aH : s1.ph < 4
  ·rw [bF aH] at aP;(repeat first | (with_reducible first | apply bb | apply a8) | (with_reducible apply aO); exact rfl; (repeat first | (with_reducible apply az); exact rfl | (with_reducible apply dO (c := true)); exact rfl; exact rfl; (exact bF (by omega))); (with_reducible apply aA));refine iz rfl rfl rfl rfl rfl rfl rfl rfl aP bp (fun au aC cp => ?_);obtain ⟨cg, dh, c8, bR, dp, ht, fH, hI, iO, rfl, rfl⟩ := id cp;(repeat first | (with_reducible first | apply aV | apply a8 | apply aX | apply dc | apply fu | apply kg) | (with_reducible apply eo); exact rfl; (exact rfl) | (with_reducible apply aO); exact rfl; (repeat first | (with_reducible apply az); exact rfl | (with_reducible apply fh); (iterate 3 exact rfl); (exact cZ (by omega)); exact rfl); (with_reducible apply aA));refine ⟨bC, _, _, [(1000, eK E r rm (dV (bx E r rm) s1).ph (dV (bx E r rm) s1).I (dV (bx E r rm) s1).J (dV (bx E r rm) s1).T (dV (bx E r rm) s1).dirty cg dh c8 bR ht)], by omega, ⟨d + 1, dV (bx E r rm) s1, cg, dh, c8, bR, dp, ht, by omega, by omega, hinv.1, ?_, cp, hI, rfl, rfl, rfl⟩, bL.refl _, rfl, ⟨rfl, rfl, rfl, trivial⟩, ⟨rfl, trivial⟩, ?_⟩
   ·rw [hc, rp];have xQ : ¬ 4 ≤ s1.ph := by omega
    have e : eT (bx E r rm) (bC + 1) s1 = ((eT (bx E r rm) bC (dV (bx E r rm) s1)).1 + 1, (eT (bx E r rm) bC (dV (bx E r rm) s1)).2) := if_neg xQ;rw [e];exact Prod.ext (by show _ + 1 + d = _ + (d + 1); omega) rfl
   ·cases ht <;> first | rfl | cases hI
  ·have xQ : 4 ≤ s1.ph := by omega
   rw [b5 aH, hinv.2.2 xQ] at aP;rw [afU xQ] at hc;have hc : eT (bx E r rm) n.toNat s = (d, s1) := by rw [hc]; exact Prod.ext (ju d) rfl
   (repeat first | (with_reducible first | apply bb | apply a8) | (with_reducible apply aO); exact rfl; (repeat first | (with_reducible apply az); exact rfl | (with_reducible apply dO (c := true)); exact rfl; exact rfl; (exact bF (by omega))); (with_reducible apply aA));refine iz rfl rfl rfl rfl rfl rfl rfl rfl aP bp (fun au aC cp => ?_);obtain ⟨cg, dh, c8, bR, dp, ht, fH, hI, iO, rfl, rfl⟩ := id cp;(repeat first | (with_reducible first | apply bb | apply aV | apply a8 | apply aX | apply dM | apply jN | apply jS | apply jR) | (with_reducible apply c4); exact rfl; (exact rfl) | (with_reducible apply aO); exact rfl; (repeat first | (with_reducible apply az); exact rfl); (with_reducible apply aA))
   ((refine eW rfl (bD rfl bf) rfl (bL.refl _) cp.closed rfl ft ?_))
   refine ⟨_, rfl, ?_, ?_⟩
   ·rw [hc]; rfl
   ·rw [hc]; exact cp
 ·have q1 : ¬ (d : Int) < n := by omega
  have hU : n.toNat - d = 0 := by omega
  rw [hU] at hc;have hc : eT (bx E r rm) n.toNat s = (d, s1) := by rw [hc]; exact Prod.ext (ju d) rfl
  (repeat first | (with_reducible first | apply bb | apply aV | apply a8 | apply aX | apply dM | apply jN | apply jS | apply jR) | (with_reducible apply c4); exact rfl; (exact rfl) | (with_reducible apply aO); exact rfl; (repeat first | (with_reducible apply az); exact rfl | (with_reducible apply dO (c := false)); exact rfl; exact rfl; (exact b5 (by omega))); (with_reducible apply aA))
  ((refine eW rfl (bD rfl bf) rfl (bL.refl _) bp.closed rfl ft ?_))
  refine ⟨_, rfl, ?_, ?_⟩
  ·rw [hc]; rfl
  ·rw [hc]; exact bp
def vK (ch : List (List aq × List Int)) : Int := ch.foldl (fun a c => max a (p9 c.2)) 0
theorem WC {ch : List (List aq × List Int)} {k : Nat} {c : List aq × List Int} (h : ch[k]? = some c) : vK (ch.take (k + 1)) = max (vK (ch.take k)) (p9 c.2) := by
 have ae := (bP.1 h).1
 have e : ch.take (k + 1) = ch.take k ++ [c] := by
  rw [nO ae, (bP.1 h).2]
 unfold vK;rw [e, List.foldl_append]; rfl
def Tg (E : List (Int × bV)) (r rm : Nat) (s : bt.aN aq) (hv fv cv : Value) (b : Nat) (S : ff) (lk : AC) (n : Nat) (R : aL) (aS : List (Nat × ai)) (bw : List (Nat × List AC)) : Prop :=
 ∃ (k : Nat) (fB d : Int), k ≤ s.ch.length ∧ n = s.ch.length - k ∧ fB = k ∧ d = vK (s.ch.take k) ∧ R = dT b S hv fv cv s.hot s.fnd s.ch ∧ aS = [(3, aR d), (10, aU cv), (11, aR s.ch.length), (12, aR fB)] ∧ bw = [(1000, eK E r rm s.ph s.I s.J s.T s.dirty hv fv cv b lk)]
theorem aa2 {s : bt.aN aq} (ak : kM s.ch) : gz E r rm 25 [] s (aR (vK s.ch)) s := by
 intro cs R bp;obtain ⟨hv, fv, cv, b, S, lk, hS, cY, gu, rfl, rfl⟩ := id bp;refine dv (f := 25) Tryz.func25 rfl (du rfl) (by exact eB rfl) ?_;(repeat first | (with_reducible first | apply bb | apply aV | apply a8 | apply aX | apply fu) | (with_reducible apply aO); exact rfl; (repeat first | (with_reducible apply az); exact rfl | (with_reducible apply df); (iterate 3 exact rfl)); (with_reducible apply aA) | (with_reducible apply oj 3); (iterate 4 exact rfl); kernel_rfl; exact rfl);refine k7 22 (Tg E r rm s hv fv cv b S lk) s.ch.length (dT b S hv fv cv s.hot s.fnd s.ch) _ [(1000, eK E r rm s.ph s.I s.J s.T s.dirty hv fv cv b lk)] ⟨0, 0, 0, eF _, rfl, rfl, rfl, rfl, rfl, rfl⟩ (bL.refl _) rfl ⟨rfl, rfl, rfl, rfl, trivial⟩ ⟨rfl, trivial⟩ ?_ ?_
 ·cases lk <;> first | rfl | cases cY
 rintro n R aS bw ⟨k, fB, d, ae, rfl, kW, mo, rfl, rfl, rfl⟩ dK;clear dK;have hlen := ak.1
 by_cases an : k < s.ch.length
 ·obtain ⟨V, D, g1⟩ : ∃ V D, s.ch[k]? = some (V, D) := ⟨_, _, cj an⟩;obtain ⟨jG, hH⟩ := ak.2 _ (dL g1);simp only at jG hH;obtain ⟨jW, kn⟩ := CY (ii := fB) kW g1;have q2 : fB < (s.ch.length : Int) := by omega
  have cr : 0 ≤ fB := by omega
  have eE : 0 < s.ch.length := by omega
  have aF := WC g1;rw [← mo, show max d (p9 (V, D).2) = if p9 D > d then p9 D else d by show max d (p9 D) = _; split <;> omega] at aF;have aP := aa1 V D hH (by omega);(repeat first | (with_reducible first | apply bb | apply aV | apply a8 | apply aX | apply dc | apply fu | apply kg) | (with_reducible apply eo); exact rfl; (exact bF (by omega)) | (with_reducible apply aO); exact rfl; (repeat first | (with_reducible apply az); exact rfl | (with_reducible apply fh); (iterate 3 exact rfl); (exact cZ (by omega)); exact rfl | (with_reducible apply tN); (iterate 4 exact rfl) | refine e2 rfl rfl rfl (by (exact aP)) rfl ?_); (with_reducible apply aA) | (with_reducible apply j9 3); (iterate 4 exact rfl); (omega); (assumption); exact rfl; kernel_rfl; exact rfl | (with_reducible apply ol 3); (iterate 3 exact rfl); (assumption); assumption; exact rfl; kernel_rfl; exact rfl);refine ⟨s.ch.length - (k + 1), dT b S hv fv cv s.hot s.fnd s.ch, _, [(1000, eK E r rm s.ph s.I s.J s.T s.dirty hv fv cv b lk)], by omega, ⟨k + 1, fB + 1, _, by omega, rfl, by omega, aF.symm, rfl, rfl, rfl⟩, bL.refl _, rfl, ⟨rfl, rfl, rfl, rfl, trivial⟩, ⟨rfl, trivial⟩, ?_⟩;cases lk <;> first | rfl | cases cY
 ·have q2 : ¬ fB < (s.ch.length : Int) := by omega
  have dl : s.ch.take k = s.ch := hQ (by omega);rw [dl] at mo;(repeat first | (with_reducible first | apply bb | apply aV | apply a8 | apply aX | apply dM | apply jN | apply jS | apply jR) | (with_reducible apply c4); exact rfl; (exact b5 (by omega)) | (with_reducible apply aO); exact rfl; (repeat first | (with_reducible apply az); exact rfl); (with_reducible apply aA))
  ((refine eW rfl (bD rfl bf) rfl (bL.refl _) bp.closed rfl ft ?_))
  exact ⟨_, rfl, by rw [← mo]; rfl, bp⟩
end
theorem Lt {n : Nat} {xs : List AC} (aD : n ≤ 900000) (ak : xs.all AC.bd = true) (aa : xs.length = 2 * n) : pI aj 131 [cT 2 n xs] fun v q => ∃ a7, v = aU a7 ∧ q = ⟨59, 2, a7, n, xs⟩ := by
 refine Gx rfl (fun v q h => by obtain ⟨a7, rfl, _⟩ := h; rfl) ?_;refine dv (f := 131) Tryz.func131 rfl (du rfl) (by exact n3) ?_;(repeat first | (with_reducible first | apply bb | apply aV | apply a8 | apply aX) | (with_reducible apply aO); exact rfl; (repeat first | (with_reducible apply az); exact rfl | (with_reducible apply GA); (iterate 3 exact rfl)); (with_reducible apply aA));refine R1 4 rfl ?_;intro b ab;cases b with
 | true =>
  have aJ := ab rfl;subst aJ;have h1 := mE aa;subst h1;clear ab;refine mF 0 59 2 rfl ?_;(repeat first | (with_reducible first | apply bb | apply aV | apply a8 | apply aX | apply dM | apply kH) | (with_reducible apply eo); exact rfl; (assumption) | (with_reducible apply aO); exact rfl; (repeat first | (with_reducible apply az); exact rfl); (with_reducible apply aA))
  ((refine z6 rfl (bD rfl bf) rfl rfl (jL _) ?_))
  exact ⟨.slice none 0 0, rfl, rfl⟩
 | false =>
  clear ab;(repeat first | (with_reducible first | apply bb | apply aV | apply a8 | apply dc) | (with_reducible apply c4); exact rfl; (exact rfl));refine Ok 0 rfl rfl rfl rfl rfl (fun v0 sR => ?_);(repeat first | (with_reducible apply aO); exact rfl; (repeat first | (with_reducible apply az); exact rfl); (with_reducible apply aA));refine oi 0 rfl rfl rfl rfl ?q1 ?q2 ak rfl (fun v1 ic => ?_)
  case q1 => exact ka (by show 0 + n ≤ 1000000; omega)
  case q2 => show (0 + n) * 16 ≤ 140737488355328; omega
  (repeat first | (with_reducible first | apply aV | apply aX | apply dM) | (with_reducible apply aO); exact rfl; (repeat first | (with_reducible apply az); exact rfl); (with_reducible apply aA))
  ((refine z6 rfl (bD rfl bf) rfl rfl (jL _) ?_))
  exact ⟨v1, rfl, by rw [List.nil_append, ju]⟩
theorem Uo {n : Nat} {xs : List AC} (aD : n ≤ 900000) (ak : xs.all AC.bd = true) (aa : xs.length = 2 * n) : pI aj 132 [cT 2 n xs] fun v q => ∃ a7, v = aU a7 ∧ q = ⟨53, 2, a7, n, xs⟩ := by
 refine Gx rfl (fun v q h => by obtain ⟨a7, rfl, _⟩ := h; rfl) ?_;refine dv (f := 132) Tryz.func132 rfl (du rfl) (by exact n3) ?_;(repeat first | (with_reducible first | apply bb | apply aV | apply a8 | apply aX) | (with_reducible apply aO); exact rfl; (repeat first | (with_reducible apply az); exact rfl | (with_reducible apply GA); (iterate 3 exact rfl)); (with_reducible apply aA));refine R1 4 rfl ?_;intro b ab;cases b with
 | true =>
  have aJ := ab rfl;subst aJ;have h1 := mE aa;subst h1;clear ab;refine mF 0 53 2 rfl ?_;(repeat first | (with_reducible first | apply bb | apply aV | apply a8 | apply aX | apply dM | apply kH) | (with_reducible apply eo); exact rfl; (assumption) | (with_reducible apply aO); exact rfl; (repeat first | (with_reducible apply az); exact rfl); (with_reducible apply aA))
  ((refine z6 rfl (bD rfl bf) rfl rfl (jL _) ?_))
  exact ⟨.slice none 0 0, rfl, rfl⟩
 | false =>
  clear ab;(repeat first | (with_reducible first | apply bb | apply aV | apply a8 | apply dc) | (with_reducible apply c4); exact rfl; (exact rfl));refine Ok 0 rfl rfl rfl rfl rfl (fun v0 sR => ?_);(repeat first | (with_reducible apply aO); exact rfl; (repeat first | (with_reducible apply az); exact rfl); (with_reducible apply aA));refine oi 0 rfl rfl rfl rfl ?q1 ?q2 ak rfl (fun v1 ic => ?_)
  case q1 => exact ka (by show 0 + n ≤ 1000000; omega)
  case q2 => show (0 + n) * 48 ≤ 140737488355328; omega
  (repeat first | (with_reducible first | apply aV | apply aX | apply dM) | (with_reducible apply aO); exact rfl; (repeat first | (with_reducible apply az); exact rfl); (with_reducible apply aA))
  ((refine z6 rfl (bD rfl bf) rfl rfl (jL _) ?_))
  exact ⟨v1, rfl, by rw [List.nil_append, ju]⟩
abbrev pC (k rm ph I J T : Int) (dirty : Bool) (hv fv cv : Value) : List AC := [.c (.int .i64 k), .c (.int .i64 rm), .c (.int .i64 ph), .c (.int .i64 I), .c (.int .i64 J), .c (.int .i64 T), .c (.bool dirty), .c hv, .c fv, .c cv]
abbrev tq (hv fv cv : Value) (hot fnd : List aq) (ch : List (List aq × List Int)) : aL := bJ (bJ (bH 1 (hO hv hot)) 2 (hO fv fnd)) 3 (xy cv ch)
abbrev l3 (hv fv cv : Value) (hot fnd : List aq) (ch : List (List aq × List Int)) (R : aL) : aL := bJ (bJ (bJ R 4 (hO hv hot)) 5 (hO fv fnd)) 6 (xy cv ch)
theorem afz {hv fv cv : Value} {hot fnd : List aq} {ch : List (List aq × List Int)} {R : aL} : bJ (l3 hv fv cv hot fnd ch R) 6 (xy cv ch) = l3 hv fv cv hot fnd ch R := by
 funext k
 by_cases hU : k = 6
 ·subst hU; rfl
 ·rw [cl _ _ hU]
theorem GZ (ch : List (List aq × List Int)) : (eQ ch).length = 2 * ch.length := by
 unfold eQ; induction ch with
 | nil => rfl
 | cons c l bW => rw [List.flatMap_cons, cX, bW, lB]; show 2 + _ = _; omega
theorem V0 (ch : List (List aq × List Int)) : ∀ y ∈ eQ ch, y.bd = true := fun y ag => by
 obtain ⟨c, _, h⟩ := List.mem_flatMap.1 ag;simp only [p0, gS, rH, or_false] at h;rcases h with rfl | rfl <;> rfl
theorem OR (l : List aq) : ∀ y ∈ b8 l, y.bd = true := cB.1 (wx l)
theorem V2 {ch : List (List aq × List Int)} {i : Nat} {V : List aq} {D : List Int} (h : ch[i]? = some (V, D)) : eO (eQ ch) (2 * i) [.p (cx 2 V.length (b8 V)), .p (cx 1 D.length (cy D))] = eQ ch := by
 have hi := (bP.1 h).1
 have e : ch = ch.take i ++ (V, D) :: ch.drop (i + 1) := by
  conv => lhs; rw [← k3 i ch, nL hi, (bP.1 h).2]
 have aM : eQ ch = eQ (ch.take i) ++ ([.p (cx 2 V.length (b8 V)), .p (cx 1 D.length (cy D))] ++ eQ (ch.drop (i + 1))) := by
  conv => lhs; rw [e]
  simp [eQ, p0]
 have ap : (eQ (ch.take i)).length = 2 * i := by rw [GZ, eu]; congr 1; omega
 rw [aM, Ko ap];simp
def Te (hv fv cv cg dh c8 : Value) (k rm ph I J T : Int) (dirty : Bool) (hot fnd : List aq) (ch : List (List aq × List Int)) (n : Nat) (R : aL) (aS : List (Nat × ai)) (bw : List (Nat × List AC)) : Prop :=
 ∃ (i : Nat) (ii : Int), i ≤ ch.length ∧ n = ch.length - i ∧ ii = i ∧ R = l3 cg dh c8 hot fnd ch (tq hv fv cv hot fnd ch) ∧ aS = [(1, .w (.one (.own 1 0))), (2, .w (.one (.own 2 0))), (18, aU c8), (19, aR ch.length), (20, aR ii)] ∧ bw = [(1, pC k rm ph I J T dirty cg dh c8), (2, pC 0 0 0 0 0 0 false (.slice none 0 0) (.slice none 0 0) (.slice none 0 0))]
theorem abg {k rm ph I J T : Int} {dirty : Bool} {hv fv cv : Value} {hot fnd : List aq} {ch : List (List aq × List Int)} (aW : hot.length ≤ 900000) (aw : fnd.length ≤ 900000) (ak : kM ch) :
  dk aj 70 [.w (.agg (pC k rm ph I J T dirty hv fv cv))] cm (tq hv fv cv hot fnd ch) fun ck aK aC => ∃ cg dh c8, ck = .w (.agg (pC k rm ph I J T dirty cg dh c8)) ∧ aK = cm ∧ aC = l3 cg dh c8 hot fnd ch (tq hv fv cv hot fnd ch) := by
 have hlen := ak.1;have jU : ∀ aZ : List AC, aZ.length = (hO hv hot).aZ.length → aZ.all AC.bd = true → pI aj 131 [cT 2 hot.length aZ] fun v q => ∃ a7, v = aU a7 ∧ q = ⟨59, 2, a7, hot.length, aZ⟩ := fun aZ ap ag => Lt aW ag (by rw [ap, ot, Nat.mul_comm]);have lI : ∀ aZ : List AC, aZ.length = (hO fv fnd).aZ.length → aZ.all AC.bd = true → pI aj 131 [cT 2 fnd.length aZ] fun v q => ∃ a7, v = aU a7 ∧ q = ⟨59, 2, a7, fnd.length, aZ⟩ := fun aZ ap ag => Lt aw ag (by rw [ap, ot, Nat.mul_comm]);have nR : ∀ aZ : List AC, aZ.length = (xy cv ch).aZ.length → aZ.all AC.bd = true → pI aj 132 [cT 2 ch.length aZ] fun v q => ∃ a7, v = aU a7 ∧ q = ⟨53, 2, a7, ch.length, aZ⟩ := fun aZ ap ag => Uo (by omega) ag (by rw [ap, GZ]);refine dv (f := 70) Tryz.func70 rfl (du rfl) (by exact n3) ?_;(repeat first | (with_reducible apply l5 (id := 1) [0,1,3,4,6,7,2,9,5,8,10,11,12,13,14] [7,10,13]); kernel_rfl; kernel_rfl; exact rfl | (with_reducible first | apply bb | apply aV | apply a8 | apply aX) | (with_reducible apply aO); exact rfl; (repeat first | (with_reducible apply az); exact rfl); (with_reducible apply aA));refine Iz 1 4 (by decide) rfl rfl rfl rfl jU rfl (jL _) (OR _) rfl (fun cg => ?_);(repeat first | (with_reducible apply aO); exact rfl; (repeat first | (with_reducible apply az); exact rfl); (with_reducible apply aA));refine Iz 2 5 (by decide) rfl rfl rfl rfl lI rfl (jL _) (OR _) rfl (fun dh => ?_)
 skip
 refine Iz 3 6 (by decide) rfl rfl rfl rfl nR rfl (jL _) (V0 _) rfl (fun c8 => ?_);(repeat first | (with_reducible apply eD); kernel_rfl | (with_reducible first | apply bb | apply aV | apply a8 | apply aX | apply fu) | (with_reducible apply aO); exact rfl; (repeat first | (with_reducible apply az); exact rfl); (with_reducible apply aA) | (with_reducible apply oj 6); (iterate 4 exact rfl); kernel_rfl; exact rfl);refine k7 33 (Te hv fv cv cg dh c8 k rm ph I J T dirty hot fnd ch) ch.length (l3 cg dh c8 hot fnd ch (tq hv fv cv hot fnd ch)) _ [(1, pC k rm ph I J T dirty cg dh c8), (2, pC 0 0 0 0 0 0 false (.slice none 0 0) (.slice none 0 0) (.slice none 0 0))] ⟨0, 0, eF _, rfl, rfl, rfl, rfl, rfl⟩ (bL.refl _) rfl ⟨rfl, rfl, rfl, rfl, rfl, trivial⟩ ⟨rfl, rfl, trivial⟩ rfl ?_;rintro n R aS bw ⟨i, ii, hi, rfl, gi, rfl, rfl, rfl⟩ dK;clear dK
 by_cases an : i < ch.length
 ·obtain ⟨V, D, g1⟩ : ∃ V D, ch[i]? = some (V, D) := ⟨_, _, cj an⟩;obtain ⟨jG, hH⟩ := ak.2 _ (dL g1);simp only at jG hH;obtain ⟨jW, kn⟩ := CY (ii := ii) gi g1;have aP := aa0 V D hH (by omega);have q2 : ii < (ch.length : Int) := by omega
  have cr : 0 ≤ ii := by omega
  have eE : 0 < ch.length := by omega
  have aG : ii.toNat * 2 = 2 * i := by omega
  have Ir : ii.toNat * 2 + 2 ≤ (eQ ch).length := by rw [GZ]; omega
  have cD : eO (eQ ch) (ii.toNat * 2) [.p (cx 2 V.length (b8 V)), .p (cx 1 D.length (cy D))] = eQ ch := by rw [aG]; exact V2 g1
  (repeat first | (with_reducible apply l5 (id := 5) [0,1,2,3,4,5,6] [4000000]); kernel_rfl; kernel_rfl; exact rfl | (with_reducible first | apply bb | apply aV | apply a8 | apply aX | apply dc | apply fu) | (with_reducible apply eo); exact rfl; (exact bF (by omega)) | (with_reducible apply aO); exact rfl; (repeat first | (with_reducible apply az); exact rfl | refine e2 rfl rfl rfl (by (exact aP)) rfl ?_); (with_reducible apply aA) | (with_reducible apply j9 6); (iterate 4 exact rfl); (omega); (assumption); exact rfl; kernel_rfl; exact rfl | (with_reducible apply ol 6); (iterate 3 exact rfl); (assumption); assumption; exact rfl; kernel_rfl; exact rfl);refine Av 6 rfl rfl rfl rfl eE rfl rfl Ir rfl ?_;(repeat first | (with_reducible apply eD); kernel_rfl | (with_reducible first | apply aV | apply a8 | apply aX | apply kg) | (with_reducible apply aO); exact rfl; (repeat first | (with_reducible apply az); exact rfl | (with_reducible apply fh); (iterate 3 exact rfl); (exact cZ (by omega)); exact rfl); (with_reducible apply aA));refine ⟨ch.length - (i + 1), l3 cg dh c8 hot fnd ch (tq hv fv cv hot fnd ch), _, [(1, pC k rm ph I J T dirty cg dh c8), (2, pC 0 0 0 0 0 0 false (.slice none 0 0) (.slice none 0 0) (.slice none 0 0))], by omega, ⟨i + 1, ii + 1, by omega, rfl, by omega, rfl, rfl, rfl⟩, fun k q ae => ?_, rfl, ⟨rfl, rfl, rfl, rfl, rfl, trivial⟩, ⟨rfl, rfl, trivial⟩, rfl⟩
  have eR : bJ (l3 cg dh c8 hot fnd ch (tq hv fv cv hot fnd ch)) 6 (⟨53, 2, c8, ch.length, eO (eQ ch) (ii.toNat * 2) [.p (cx 2 V.length (b8 V)), .p (cx 1 D.length (cy D))]⟩ : bS) = l3 cg dh c8 hot fnd ch (tq hv fv cv hot fnd ch) := by
   rw [cD]; exact afz
  exact (congrFun eR k).trans ae
 ·have q2 : ¬ ii < (ch.length : Int) := by omega
  (repeat first | (with_reducible first | apply bb | apply aV | apply a8 | apply aX | apply dM | apply jN | apply jS | apply jR) | (with_reducible apply c4); exact rfl; (exact b5 (by omega)) | (with_reducible apply aO); exact rfl; (repeat first | (with_reducible apply az); exact rfl); (with_reducible apply aA))
  ((refine z1 rfl (fc rfl rfl rfl bf) (bL.refl _) rfl (fun j q h => ?_) ?_))
  ·match j with
   | 0 => cases h
   | 1 => exact ⟨_, rfl⟩
   | 2 => exact ⟨_, rfl⟩
   | 3 => exact ⟨_, rfl⟩
   | j + 4 => cases h
  ·exact ⟨cg, dh, c8, rfl, rfl, rfl⟩
theorem afr {b : Nat} {S : ff} {hv fv cv : Value} {hot fnd : List aq} {ch : List (List aq × List Int)} : bL (tq hv fv cv hot fnd ch) (dT b S hv fv cv hot fnd ch)
 | 0, _, h => by cases h
 | 1, _, h => h
 | 2, _, h => h
 | 3, _, h => h
 | k + 4, _, h => by cases h
theorem afB {b : Nat} {S : ff} {hv fv cv cg dh c8 : Value} {hot fnd : List aq} {ch : List (List aq × List Int)} : b9 (l3 cg dh c8 hot fnd ch (tq hv fv cv hot fnd ch)) (dT b S hv fv cv hot fnd ch) = l3 cg dh c8 hot fnd ch (dT b S hv fv cv hot fnd ch) := by
 funext i
 match i with
 | 0 => rfl
 | 1 => rfl
 | 2 => rfl
 | 3 => rfl
 | 4 => rfl
 | 5 => rfl
 | 6 => rfl
 | i + 7 => rfl
theorem afA {hv fv cv : Value} {hot fnd : List aq} {ch : List (List aq × List Int)} {R : aL} : ∀ i r, R i = some r → ∃ ba, l3 hv fv cv hot fnd ch R i = some ba := fun i r h => by
 by_cases qa : i = 6
 ·subst qa; exact ⟨_, cw _ _ _⟩
 ·by_cases jC : i = 5
  ·subst jC; exact ⟨_, rfl⟩
  ·by_cases eR : i = 4
   ·subst eR; exact ⟨_, rfl⟩
   ·exact ⟨r, by unfold l3; rw [cl _ _ qa, cl _ _ jC, cl _ _ eR]; exact h⟩
section
variable {E : List (Int × bV)} {r rm : Nat}
theorem aba {s : bt.aN aq} (aW : s.hot.length ≤ 900000) (aw : s.fnd.length ≤ 900000) (ak : kM s.ch) {cs : List AC} {R : aL} (bp : dC E r rm s cs R) :
  dk aj 28 [rU] (cO 1000 cs) R (oM 1000 fun ck au aC => ∃ hv fv cv, ck = .w (.agg (pC r rm s.ph s.I s.J s.T s.dirty hv fv cv)) ∧ au = cs ∧ aC = l3 hv fv cv s.hot s.fnd s.ch R) := by
 obtain ⟨hv, fv, cv, b, S, lk, hS, cY, gu, rfl, rfl⟩ := id bp;have aP := abg (k := (r : Int)) (rm := (rm : Int)) (ph := (s.ph : Int)) (I := (s.I : Int)) (J := (s.J : Int)) (T := (s.T : Int)) (dirty := s.dirty) (hv := hv) (fv := fv) (cv := cv) aW aw ak;refine dv (f := 28) Tryz.func28 rfl (du rfl) (by exact eB rfl) ?_;(repeat first | (with_reducible first | apply bb | apply aV | apply a8 | apply aX) | (with_reducible apply aO); exact rfl; (repeat first | (with_reducible apply az); exact rfl | (with_reducible apply df); (iterate 3 exact rfl)); (with_reducible apply aA));refine Oi (l := _) (args := [_]) rfl rfl rfl rfl aP afr rfl rfl ?_;rintro _ _ _ ⟨cg, dh, c8, rfl, rfl, rfl⟩;refine ⟨rfl, ?_⟩;rw [afB];(repeat first | (with_reducible first | apply aV | apply aX | apply dM) | (with_reducible apply aO); exact rfl; (repeat first | (with_reducible apply az); exact rfl); (with_reducible apply aA))
 ((refine eW rfl (fc rfl rfl rfl bf) rfl (bL.refl _) bp.closed rfl afA ?_))
 exact ⟨_, rfl, cg, dh, c8, rfl, rfl, rfl⟩
end
end Go.Proofs.YtpochbhajmbfdaaGreat
