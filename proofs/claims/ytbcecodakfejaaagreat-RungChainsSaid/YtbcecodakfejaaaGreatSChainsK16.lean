/-
  My own texts, without what this claim does not need. My own text.
-/
import Derived.Test.YtbcecodakfejaaaGreatSChainsK15
set_option maxRecDepth 100000
set_option maxHeartbeats 64000000
set_option linter.unusedVariables false
set_option linter.unusedSimpArgs false
set_option linter.unusedSectionVars false
namespace Go.Proofs.YtbcecodakfejaaaGreat
open Go.RowKit
open bq
theorem Mh (a b : Int) : c7 a b a b = true := mX.2 ⟨rfl, rfl⟩
theorem Wu {D : List Int} {d : Int} (h : d ∈ D) : d ≤ eX D := by
 unfold eX
 have key : ∀ (l : List Int) (a : Int), a ≤ l.foldl max a ∧ (d ∈ l → d ≤ l.foldl max a) := by
  intro l
  induction l with
  | nil => intro a; exact ⟨mH _, fun h => by cases h⟩
  | cons x l bI =>
   intro a;obtain ⟨i1, i2⟩ := bI (max a x);rw [p5];refine ⟨by omega, fun h => ?_⟩;rcases gj.1 h with rfl | h
   ·omega
   ·exact i2 h
 exact (key D 0).2 h
theorem Wl {ch : List (List aj × List Int)} {m : Int} (az : 0 ≤ m) (h : ∀ c ∈ ch, eX c.2 ≤ m) : oz ch ≤ m := by
 unfold oz
 have key : ∀ (l : List (List aj × List Int)) (a : Int), a ≤ m → (∀ c ∈ l, eX c.2 ≤ m) → l.foldl (fun a c => max a (eX c.2)) a ≤ m := by
  intro l
  induction l with
  | nil => intro a aJ _; exact aJ
  | cons x l bI =>
   intro a aJ h;rw [p5];exact bI _ (by have := h x (jd ..); omega) fun c al => h c (k5 _ al)
 exact key ch 0 az h
theorem LH {N : Rat → aj → Prop} : ∀ {V : List aj} {t : Rat}, Fv N t V → wm N t V
 | [], _, _ => trivial
 | _ :: _, _, ⟨u, h1, h2, ao, aD⟩ => ⟨u, h1, h2, ao, LH aD⟩
section
variable {E : List (Int × bT)} {r rm : Nat}
theorem V4 {s : bq.aU aj} (hw : hO E r rm) (ab : jB (bp E r rm) s) (ak : kP (bp E r rm) (tI (E.map Prod.snd) r) s) {i : Nat} {V : List aj} {D : List Int} {o a b c d : Int} (hi : s.ch[i]? = some (V, D)) (e7 : E[i]? = some (o, (a, b), (c, d))) :
  (sy r V D = true ∧ V.head? = some (bB a r, bB b r) ∧ V.getLast? = some (bB c r, bB d r) ∧ (∀ v ∈ V, v ∈ s.hot)) ∧ (0 ≤ eX D ∧ eX D + 1 ≤ rm) ∧ (max (eX D) 1 * 2 ^ r ≤ 268435456 → sX a b c d r (max (eX D) 1 * 2 ^ r) V = true) := by
 have af := ak.hR i _ hi;obtain ⟨g1, g2⟩ := af.gT;simp only at g1 g2;have Ci := id g1;obtain ⟨w1, w2, w3, ue, Et, Jr⟩ := g1;have tl := (Bx hw.ok ab ak (cV hi)).2;simp only at tl;have aw : (bp E r rm).R = rm := rfl;rw [aw] at tl;have k1 := hw.room;have Cw := hw.pos
 have BD : (E.map Prod.snd).getD i kq = ((a, b), (c, d)) := by
  rw [fX, eh, e7]; rfl
 have yV := af.head;have wT := af.last
 have FG : (bp E r rm).P i = (bB a r, bB b r) := by
  show kE r ((E.map Prod.snd).getD i kq).1 = _;rw [BD]; rfl
 have FH : (bp E r rm).Q i = (bB c r, bB d r) := by
  show kE r ((E.map Prod.snd).getD i kq).2 = _;rw [BD]; rfl
 rw [FG] at yV;rw [FH] at wT;simp only at yV wT
 have pK : eX D + 1 ≤ rm := by
  by_cases az : (rm : Int) = 0
  ·omega
  ·have := (FD (D := D) (m := (rm : Int) - 1) (by omega) (fun e he => by have := tl e he; omega)).2;omega
 have B9 : 0 ≤ eX D := (FD (D := D) (m := 1024) (by decide) (fun e he => by have := tl e he; omega)).1;refine ⟨⟨RP ⟨w1, w2, w3, ue, fun e he => ?_, Et, Jr⟩, yV, wT, fun v hv => af.hot v hv⟩, ⟨B9, pK⟩, fun YA => ?_⟩
 ·have := tl e he; omega
 ·have rV : (1 : Int) ≤ max (eX D) 1 := by omega
  have qN : ∀ e ∈ D, e ≤ max (eX D) 1 := fun e he => by have := Wu he; omega
  generalize max (eX D) 1 = m at *;have bU := oS hw.near i;rw [BD] at bU;have b1 := (Dj.1 bU.1).1;have b2 := (Dj.1 bU.2).1;have hS : (0 : Int) < 2 ^ r := gp (by decide);have Nu : 0 ≤ m * 2 ^ r := fY (by omega) (by omega)
  have cq : mE r ((a, b), (c, d)) m 0 (bB a r, bB b r) := by
   have h1 : mE r ((a, b), (c, d)) 1 0 (bB a r, bB b r) := PA;exact Ds rV h1
  have aF : mE r ((a, b), (c, d)) m 1 (bB c r, bB d r) := by
   have h1 : mE r ((a, b), (c, d)) 1 1 (bB c r, bB d r) := ab1;exact Ds rV h1
  have BE : mE r ((a, b), (c, d)) m = kD a b c d (2 ^ r) (aO (m * 2 ^ r)) := by
   funext t x;show kD a b c d (2 ^ r) (aO m * aO (2 ^ r)) t x = _;rw [show aO (m * 2 ^ r) = aO m * aO (2 ^ r) from by simp only [aO, lC]]
  rw [BD] at g2;have qF := LB (N := mE r ((a, b), (c, d))) (m := m) (fun d' t x j8 aa => Ds j8 aa) V D 0 0 Rat.le_refl (by decide) w2 qN (fun v hv => by rw [yV] at hv; cases hv; exact cq) g2;rw [BE] at qF cq aF;refine V0.2 ⟨?_, ?_, ⟨_, yV, cq⟩, ⟨_, wT, aF⟩, LH qF⟩
  ·unfold preB;rw [b1, b2, bZ Nu, bZ YA, bZ (show (0 : Int) ≤ (r : Int) ∧ (r : Int) ≤ 28 from ⟨by omega, by have := hw.r; omega⟩)];simp only [Bool.and_true, l8, oc, iE];exact fun e => w1 (jv e)
  ·rw [kH]; exact w3
end
def S6 (E : List (Int × bT)) (r rm : Nat) (S : bq.aU aj) (R0 : aI) (n : Nat) (R : aI) (aM : List (Nat × ah)) (bi : List (Nat × List AC)) : Prop :=
 ∃ (i : Nat) (ii : Int), i ≤ S.ch.length ∧ n = S.ch.length - i ∧ ii = i ∧ R = R0 ∧ aM = [(0, jh E), (8, jZ 8), (9, jZ 9), (56, qb S.ch), (57, aE S.ch.length), (58, aE ii)] ∧ bi = [(8, stM r rm S), (9, [.c (.int .i64 0), .p (bX 2 S.hot.length (bD S.hot))])]
def S7 (E : List (Int × bT)) (r rm : Nat) (S : bq.aU aj) (R0 : aI) (V : List aj) (D : List Int) (ii : Int) (n : Nat) (R : aI) (aM : List (Nat × ah)) (bi : List (Nat × List AC)) : Prop :=
 ∃ (j : Nat) (ek : Int), j ≤ V.length ∧ n = V.length - j ∧ ek = j ∧ R = R0 ∧ aM = [(0, jh E), (8, jZ 8), (9, jZ 9), (56, qb S.ch), (57, aE S.ch.length), (58, aE ii), (10, aE ii), (11, jZ 11), (12, jZ 12), (105, gq V), (106, aE V.length), (107, aE ek)] ∧ bi = [(8, stM r rm S), (9, [.c (.int .i64 0), .p (bX 2 S.hot.length (bD S.hot))]), (11, wg V D), (12, wg V D)]
theorem aaS {E : List (Int × bT)} {k room : Int} : aH Tryz.prog 4 [jh E, aE k, aE room] (bk true) := by
 have aW := adJ (E := E);have nH := ado
 by_cases ak : (E.length : Int) ≤ 7
 case neg =>
  rw [cp ak] at aW;refine bl (f := 4) Tryz.func4 rfl rfl rfl rfl ?_;(refine cc ?_)
  ((refine bd rfl (a8 rfl aL) ?_))
  exact ah.aS.refl _
 rw [bZ ak] at aW;have bH := adg (E := E) (by omega);cases ax : gK (E.map Prod.snd) with
 | false =>
  rw [ax] at bH;refine bl (f := 4) Tryz.func4 rfl rfl rfl rfl ?_;(refine cc ?_)
  ((refine bd rfl (a8 rfl aL) ?_))
  exact ah.aS.refl _
 | true =>
  rw [ax] at bH;have hQ := aaE (k := k) (room := room) ax (by omega) 28 (bV := c9) nn;obtain ⟨i1, _, _, _⟩ := Ju (k := k) (room := room) ax (by omega);have hw : hO E (cf k) (dI room) := II ax (by omega);have rz := (HC hw i1).nP 28 (bV := c9) nn rfl rfl;have au := WT (k := k) (room := room) ax (by omega);have iz := hw.st i1;have kn := (Ov (E := E) (r := cf k) (rm := dI room) (s := qf E k room) iz.2.2).nP 28 (bV := c9) nn rfl rfl;generalize qf E k room = dM at *
  by_cases p1 : (dM.ph : Int) = 4
  case neg =>
   refine bl (f := 4) Tryz.func4 rfl rfl rfl rfl ?_;refine pw ?_;(refine nF ?_);refine zc 28 c9 rfl rfl rfl rfl hQ rfl rfl rfl rfl (fun cs uz bK => ?_);rw [Dy];(refine ba ?_);refine mu 28 c9 rfl rfl rfl rfl rfl rfl rfl rfl rz bK (bz.refl _) (fun Fx mT gB => ?_);rw [show bP (aI.aX c9 mT) (aI.aX c9 uz) = aI.aX c9 mT from bK.bP gB];(refine nF ?_)
   ((refine bd rfl (a8 rfl aL) ?_))
   exact ah.aS.refl _
  have aD : xV (bp E (cf k) (dI room)) (tI (E.map Prod.snd) (cf k)) dM := by
   rcases au with h | h
   ·exact h
   ·rw [h.ph] at p1; exact absurd p1 (by decide)
  clear au;obtain ⟨s1, s2, bN, bO⟩ := iz;have cC := hw.r;have YJ := i1.1.gS;have k1 := hw.room;have hlen : (dM.ch.length : Int) = (E.length : Int) := by have := aD.laid.len; rw [hO.n] at this; omega
  have Ng := fun {i V D o a b c d} hi e7 => V4 hw i1.1 aD.laid (i := i) (V := V) (D := D) (o := o) (a := a) (b := b) (c := c) (d := d) hi e7
  have aiE : oz dM.ch ≤ (dI room : Int) + 1 := by
   refine Wl (by omega) fun c al => ?_;have tl := (Bx hw.ok i1.1 aD.laid al).2;have aw : (bp E (cf k) (dI room)).R = dI room := rfl;rw [aw] at tl;have := (FD (D := c.2) (m := (dI room : Int)) (by omega) (fun e he => by have := tl e he; omega)).2;omega
  have aiF : ¬ oz dM.ch > (dI room : Int) + 1 := by omega
  have df := ada (l := dM.hot) (by omega);have fD : ∀ (i : Nat) (V : List aj) (D : List Int), dM.ch[i]? = some (V, D) → ∀ v ∈ V, dd (cf k) v.1 v.2 = true := fun i V D hi v hv => YJ _ ((aD.laid.hR i _ hi).hot v hv);clear i1 aD ax;generalize oz dM.ch = ah7 at *;refine bl (f := 4) Tryz.func4 rfl rfl rfl rfl ?_;refine pw ?_;(refine nF ?_);refine zc 28 c9 rfl rfl rfl rfl hQ rfl rfl rfl rfl (fun cs uz bK => ?_);rw [Dy];(refine ba ?_);refine mu 28 c9 rfl rfl rfl rfl rfl rfl rfl rfl rz bK (bz.refl _) (fun Fx mT gB => ?_);rw [show bP (aI.aX c9 mT) (aI.aX c9 uz) = aI.aX c9 mT from bK.bP gB];(repeat first | (with_reducible apply k7 (id := 9) [0,1,2,3,4,5,6,7,9,10,11,8,12,13] [45,2000028]); kernel_rfl; kernel_rfl; rfl | refine cu ?_ | (with_reducible apply gf); rfl; (repeat first | refine gP ?_ | (with_reducible apply cg (c := false)); rfl; rfl; ((simp only [nR]; (omega)))); (with_reducible apply fL));refine mu 28 c9 rfl rfl rfl rfl rfl rfl rfl rfl kn gB (bz.refl _) (fun Fy ou kK => ?_);rw [show bP (aI.aX c9 ou) (aI.aX c9 mT) = aI.aX c9 ou from gB.bP kK];(repeat first | refine cu ?_ | refine SI df ?_);refine jW 144 (S6 E (cf k) (dI room) dM ou) dM.ch.length ou _ [(8, stM (cf k) (dI room) dM), (9, [.c (.int .i64 0), .p (bX 2 dM.hot.length (bD dM.hot))])] ⟨0, 0, dx _, rfl, rfl, rfl, rfl, rfl⟩ (bz.refl _) rfl ⟨rfl, rfl, rfl, rfl, rfl, rfl, trivial⟩ ⟨rfl, rfl, trivial⟩ rfl ?_;clear rz kn hQ bK gB kK;rintro n R aM bi ⟨i, ii, hi, rfl, fp, rfl, rfl, rfl⟩ cT;clear cT
  by_cases an : i < dM.ch.length
  case neg =>
   have q2 : ¬ ii < (dM.ch.length : Int) := by omega
   (refine nF ?_)
   ((refine bd rfl (a8 rfl aL) ?_))
   exact ah.aS.refl _
  obtain ⟨V, D, g1⟩ : ∃ V D, dM.ch[i]? = some (V, D) := ⟨_, _, bJ an⟩;obtain ⟨o, a, b, c, d, h1⟩ : ∃ o a b c d, E[i]? = some (o, (a, b), (c, d)) := ⟨_, _, _, _, _, bJ (by omega)⟩;obtain ⟨⟨f1, f2, f3, f4⟩, ⟨f5, f6⟩, f7⟩ := Ng g1 h1;obtain ⟨gd, fT⟩ := bO _ (cV g1);simp only at gd fT;have mr := fD i V D g1;have M5 : ∀ v ∈ V, uv v := fun v hv => ZU (mr v hv);have mR : ((eC dM.ch).drop (ii.toNat * 2)).take 2 = [.p (bX 2 V.length (bD V)), .p (bX 1 D.length (ck D))] := wk fp g1;have sJ := uO fp h1;have q2 : ii < (dM.ch.length : Int) := by omega
  have bR : 0 ≤ ii := by omega
  have dD : ii < (E.length : Int) := by omega
  have aw : fQ ((cf k : Nat) : Int) (cf k) := Oi cC;have EX := adf (V := V) (D := D) (k := ((cf k : Nat) : Int)) (by omega) (by omega) M5;rw [Rx cC, bZ rfl, f1] at EX;have EX : aH Tryz.prog 17 [jz V D, aE (cf k)] (bk true) := EX;have ahB := ac9 (V := V) (D := D) (by omega) (by omega);have AN := acR (V := V) (D := D) (by omega)
  have bU : gg (a, b) = true ∧ gg (c, d) = true := by
   have := oS hw.near i;rwa [show (E.map Prod.snd).getD i kq = ((a, b), (c, d)) from by rw [fX, eh, h1]; rfl] at this
  have eJ := pX.1 bU.1;have ft := pX.1 bU.2;simp only at eJ ft;have sK := DE (x := a) (y := b) aw (by omega) (by omega) (by omega) (by omega);have JG := DE (x := c) (y := d) aw (by omega) (by omega) (by omega) (by omega);have XZ : V[0]? = some (bB a (cf k), bB b (cf k)) := by rw [← List.head?_eq_getElem?]; exact f2
  have X0 : V[V.length - 1]? = some (bB c (cf k), bB d (cf k)) := by rw [← List.getLast?_eq_getElem?]; exact f3
  have Ti := lV (j := 0) (i := 0) rfl XZ;have ahs := lV (show (V.length : Int) - 1 = ((V.length - 1 : Nat) : Int) by omega) X0;have cx : 0 < (V.length : Int) := by omega
  have dF : 0 ≤ (V.length : Int) - 1 := by omega
  have gA : (V.length : Int) - 1 < (V.length : Int) := by omega
  have cA : c7 (bB a (cf k)) (bB b (cf k)) (bB a (cf k)) (bB b (cf k)) = true := Mh _ _;have cR : c7 (bB c (cf k)) (bB d (cf k)) (bB c (cf k)) (bB d (cf k)) = true := Mh _ _;have S8 := fun far => acN (a1 := a) (a2 := b) (b1 := c) (b2 := d) (k := ((cf k : Nat) : Int)) (far := far) (V := V) (D := D) (by omega) M5 (by omega);have hS : (0 : Int) < 2 ^ cf k := gp (by decide)
  have Gt : (2 : Int) ^ cf k ≤ 268435456 := by
   have h := vv (show 0 < 2 by decide) cC;have e : (((2 : Nat) ^ cf k : Nat) : Int) = (2 : Int) ^ cf k := by rw [Int.natCast_pow]; rfl
   have h2 : (2 : Nat) ^ 28 = 268435456 := by decide
   omega
  have em : (if 1 > eX D then 1 else eX D) = max (eX D) 1 := by split <;> omega
  rw [← em] at f7;have m1 : 0 ≤ (if 1 > eX D then 1 else eX D) * 2 ^ cf k := fY (by split <;> omega) (by omega)
  have m2 : (if 1 > eX D then 1 else eX D) * 2 ^ cf k ≤ 9223372036854775807 := by
   have := rf (show (if 1 > eX D then 1 else eX D) ≤ 1024 by split <;> omega) Gt (by omega) (by decide);omega
  clear mr fD Ng em f1 f2 f3 eJ ft bU aw hS Gt;generalize bB a (cf k) = cy at *;generalize bB b (cf k) = cz at *;generalize bB c (cf k) = jf at *;generalize bB d (cf k) = kJ at *;(repeat first | (with_reducible apply cQ (id := 16) [0,1,2,3,4,5,6,7,8,9,10,11,12,13,14,15,16,17,18,19,20,21,22,23,24,25,26,27,28,29,30,31,32,33,34,35,36,37,38]); kernel_rfl; kernel_rfl; rfl | refine cu ?_ | (with_reducible apply gf); rfl; (repeat first | refine gP ?_ | refine fi ?_ | (with_reducible apply cg (c := false)); rfl; rfl; ((simp only [nR]; (omega)))); (with_reducible apply fL));refine jW 144 (S7 E (cf k) (dI room) dM R V D ii) V.length R _ [(8, stM (cf k) (dI room) dM), (9, [.c (.int .i64 0), .p (bX 2 dM.hot.length (bD dM.hot))]), (11, wg V D), (12, wg V D)] ⟨0, 0, dx _, rfl, rfl, rfl, rfl, rfl⟩ (bz.refl _) rfl ⟨rfl, rfl, rfl, rfl, rfl, rfl, rfl, rfl, rfl, rfl, rfl, rfl, trivial⟩ ⟨rfl, rfl, rfl, rfl, trivial⟩ rfl ?_;rintro n R aM bi ⟨j, ek, ae, rfl, nc, rfl, rfl, rfl⟩ cT;clear cT
  by_cases ap : j < V.length
  case pos =>
   obtain ⟨jk, qg, g2⟩ : ∃ a b, V[j]? = some (a, b) := ⟨_, _, bJ ap⟩;have aht := lV nc g2;have ma : ek < (V.length : Int) := by omega
   have zY : 0 ≤ ek := by omega
   have tF := se.2 (f4 _ (cV g2));have Nm := ac8 (r := 0) (l := dM.hot) (by omega) (x := jk) (y := qg);have ajr : ¬ iB dM.hot jk qg < 0 := by omega
   (repeat first | refine cu ?_ | refine SI Nm ?_);exact ⟨V.length - (j + 1), R, _, [(8, stM (cf k) (dI room) dM), (9, [.c (.int .i64 0), .p (bX 2 dM.hot.length (bD dM.hot))]), (11, wg V D), (12, wg V D)], by omega, ⟨j + 1, ek + 1, by omega, rfl, by omega, rfl, rfl, rfl⟩, bz.refl _, rfl, ⟨rfl, rfl, rfl, rfl, rfl, rfl, rfl, rfl, rfl, rfl, rfl, rfl, trivial⟩, ⟨rfl, rfl, rfl, rfl, trivial⟩, rfl⟩
  have ma : ¬ ek < (V.length : Int) := by omega
  by_cases pG : (if 1 > eX D then 1 else eX D) * 2 ^ cf k ≤ 268435456
  ·have tf := bZ pG;have JB := S8 ((if 1 > eX D then 1 else eX D) * 2 ^ cf k);rw [f7 pG] at JB;(repeat first | (with_reducible apply Hg); kernel_rfl | (with_reducible apply cQ (id := 24) [0,1,2,3,4,5,6]); kernel_rfl; kernel_rfl; rfl | (with_reducible apply cQ (id := 25) [0,1,2,3,4,5,6,7,8,9,10,11,12,13,14,15,16,17,18,19]); kernel_rfl; kernel_rfl; rfl | (with_reducible first | apply D6 | apply IR | apply I0 | apply Hf | apply I2 | apply ID | apply IE | apply IZ | apply IQ) | (with_reducible apply IX); rfl; (first | exact cp (by omega) | rfl) | (with_reducible apply gf); rfl; (repeat first | (with_reducible apply yi); rfl | (with_reducible apply KA); (iterate 5 rfl) | (with_reducible apply Kw); (iterate 3 rfl) | (with_reducible apply Ky); (iterate 3 rfl); (omega); (omega); (assumption); rfl | (with_reducible apply E4); (iterate 3 rfl); (exact mw (by omega)); rfl | (with_reducible apply E9); (iterate 4 rfl) | refine Bd rfl rfl rfl (by (exact AN)) rfl ?_ | refine E7 rfl rfl rfl rfl rfl rfl rfl (by (exact JB)) rfl ?_ | (with_reducible apply KE); (iterate 3 rfl); assumption; assumption; assumption; rfl | (with_reducible apply cg (c := true)); rfl; rfl; (assumption)); (with_reducible apply fL));exact ⟨dM.ch.length - (i + 1), R, _, [(8, stM (cf k) (dI room) dM), (9, [.c (.int .i64 0), .p (bX 2 dM.hot.length (bD dM.hot))])], by omega, ⟨i + 1, ii + 1, by omega, rfl, by omega, rfl, rfl, rfl⟩, bz.refl _, rfl, ⟨rfl, rfl, rfl, rfl, rfl, rfl, trivial⟩, ⟨rfl, rfl, trivial⟩, rfl⟩
  ·have tf := cp pG;(repeat first | (with_reducible apply Hg); kernel_rfl | (with_reducible apply cQ (id := 24) [0,1,2,3,4,5,6]); kernel_rfl; kernel_rfl; rfl | (with_reducible apply cQ (id := 25) [0,1,2,3,4,5,6,7,8,9,10,11,12,13,14,15,16,17,18,19]); kernel_rfl; kernel_rfl; rfl | (with_reducible first | apply D6 | apply IR | apply I0 | apply Hf | apply I2 | apply ID | apply IE | apply IZ | apply IQ) | (with_reducible apply IX); rfl; (first | exact cp (by omega) | rfl) | (with_reducible apply gf); rfl; (repeat first | (with_reducible apply yi); rfl | (with_reducible apply E4); (iterate 3 rfl); (exact mw (by omega)); rfl | (with_reducible apply E9); (iterate 4 rfl) | refine Bd rfl rfl rfl (by (exact AN)) rfl ?_ | (with_reducible apply KE); (iterate 3 rfl); assumption; assumption; assumption; rfl | (with_reducible apply cg (c := false)); rfl; rfl; (assumption)); (with_reducible apply fL));exact ⟨dM.ch.length - (i + 1), R, _, [(8, stM (cf k) (dI room) dM), (9, [.c (.int .i64 0), .p (bX 2 dM.hot.length (bD dM.hot))])], by omega, ⟨i + 1, ii + 1, by omega, rfl, by omega, rfl, rfl, rfl⟩, bz.refl _, rfl, ⟨rfl, rfl, rfl, rfl, rfl, rfl, trivial⟩, ⟨rfl, rfl, trivial⟩, rfl⟩
end Go.Proofs.YtbcecodakfejaaaGreat
namespace Go.Proofs.YtbcecodakfejaaaGreat
theorem VT (E : List (Int × bq.bT)) (k room : Int) (_ : (E.length : Int) ≤ 9223372036854775807) (_ : -9223372036854775808 ≤ k ∧ k ≤ 9223372036854775807) (_ : -9223372036854775808 ≤ room ∧ room ≤ 9223372036854775807) : aH Tryz.prog 4 [jh E, aE k, aE room] (bk true) := aaS
end Go.Proofs.YtbcecodakfejaaaGreat
namespace Go.Proofs.YtbcecodakfejaaaGreat
open Go.ChangeShapes Go.WideShapes Go.ChangeAt Go.RowKit Go.Joins
theorem laidOut : laidOutB Tryz.prog = true := by kernel_rfl
theorem MA : ∀ (L : List (List Int)), (∀ x ∈ L, x.length = 5) → ∃ l : List (Int × bq.bT), l.length = L.length ∧ rM L = pC l
 | [], _ => ⟨[], rfl, rfl⟩
 | x :: L, h => by
  obtain ⟨l, h1, h2⟩ := MA L fun y ai => h y (by simp [ai]);have aa := h x (by simp)
  match x, aa with
  | [a, b, c, d, o], _ =>
   refine ⟨(o, (a, b), (c, d)) :: l, by simp [h1], ?_⟩;show rM ([a, b, c, d, o] :: L) = BC (o, (a, b), (c, d)) ++ pC l;rw [← h2];unfold rM;rw [List.flatten_cons, List.map_append];rfl
theorem WO {H : Type} {enc : TypeId × Value → H} {P : Program} {W : World} {e : TypeId} {g0 g1 g2 f0 f1 : Field} (he : P.underlying e = some (.struct #[g0, g1, g2])) (ce : P.cellsOf e = 5) (lY : g0.offset = 0) (p1 : g1.offset = 2) (p2 : g2.offset = 4) (d0 : P.cellsOf g0.type = 2) (aB : g1.type = g0.type) (d2 : P.cellsOf g2.type = 1) (bY : P.underlying g2.type = some (.int .i64))
  (aq : P.underlying g0.type = some (.struct #[f0, f1])) (Dt : f0.offset = 0) (o1 : f1.offset = 1) (gQ : P.cellsOf f0.type = 1) (c1 : P.cellsOf f1.type = 1) (gJ : P.underlying f0.type = some (.int .i64)) (bn : P.underlying f1.type = some (.int .i64))
  {n : Nat} {cs : List Value} {d : DataW H × List MemPlace} (h : DataW.trod enc P W 0 (fun _ => true) true n e cs = some d) : ∃ a b x y v : Int, cs = [.int .i64 a, .int .i64 b, .int .i64 x, .int .i64 y, .int .i64 v] := by
 obtain ⟨xs, k, _, _, cC, oK, au⟩ := DataW.trod_struct he h;rw [ce] at cC
 match cs, cC, xs, oK with
 | [u, v, w, r, s], _, [cq, aF, aP], _ =>
  have c0 := au 0 g0 rfl;have q1 := au 1 g1 rfl;have q2 := au 2 g2 rfl;simp [lY, p1, p2, d0, d2, aB] at c0 q1 q2;obtain ⟨a, b, aa⟩ := L7 aq d0 Dt o1 gQ c1 gJ bn c0;obtain ⟨x, y, ai⟩ := L7 aq d0 Dt o1 gQ c1 gJ bn q1;obtain ⟨z, aN⟩ := FM bY q2 rfl;cases aa; cases ai; cases aN;exact ⟨a, b, x, y, z, rfl⟩
theorem acC {H : Type} {enc : TypeId × Value → H} {P : Program} {W : World} {t e : TypeId} (aB : P.underlying t = some (.slice e)) (ce : P.cellsOf e = 5)
  (yR : ∀ (n : Nat) (cs : List Value) d, DataW.trod enc P W 0 (fun _ => true) true n e cs = some d → ∃ a b x y v : Int, cs = [.int .i64 a, .int .i64 b, .int .i64 x, .int .i64 y, .int .i64 v])
  {v : Value} {d : DataW H} {p : List MemPlace} (hv : ∃ a len cap, v = .slice a len cap) (az : DataW.Trod enc P W 0 (fun _ => true) true t v d p) :
  ∃ l : List (Int × bq.bT), (l.length : Int) ≤ 9223372036854775807 ∧ cX (fun _ => True) id W (jh l) v := by
 obtain ⟨L, h1, h2, ao⟩ := acD 5 aB ce (fun n cs d h => by obtain ⟨a, b, x, y, v, e⟩ := yR n cs d h; exact ⟨[a, b, x, y, v], e⟩) hv az (by decide);obtain ⟨l, aD, cm⟩ := MA L h2;rw [cm] at ao;refine ⟨l, by rw [aD]; exact h1, ?_⟩;rw [← aD] at ao;exact ao
theorem aei {P : Program} {f : FuncId} {args : List ah} (h : aH P f args (bk true)) (jj : List Value) (W : World) (ak : args.length = jj.length) (ap : ∀ (i : Nat) (x : ah) (v : Value), args[i]? = some x → jj[i]? = some v → cX (fun _ => True) id W x v) :
  Calls P f jj.toArray W fun e bf => e = .returned (.bool true) ∧ Below W.heap.size W bf :=
 (h.call (fun _ => True) W jj ⟨ak, ap⟩).mono fun e bf ⟨v, he, ⟨hv, _⟩, ab⟩ => by subst hv; exact ⟨he, ab⟩
end Go.Proofs.YtbcecodakfejaaaGreat
