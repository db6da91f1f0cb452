/-
  My own texts, without what this claim does not need. My own text.
-/
import Derived.Test.YtbcecodakfejaaaGreatSKeepsK17
set_option maxRecDepth 100000
set_option maxHeartbeats 64000000
set_option linter.unusedVariables false
set_option linter.unusedSimpArgs false
set_option linter.unusedSectionVars false
open Go.Proofs.Tryz renaming prog → ag
namespace Go.Proofs.YtbcecodakfejaaaGreat
open Go.RowKit
open br
theorem SV {r : Nat} (h : r ≤ 28) : eV (r : Int) = r := by unfold eV; (repeat split) <;> omega
theorem abM (k : Int) : gg k (eV k) := by
 refine ⟨Kd k, ?_⟩;unfold eV; (repeat split) <;> omega
section
variable {E : List (Int × bO)} {r : Nat}
abbrev hV (E : List (Int × bO)) (i : Nat) : bO := (E.map Prod.snd).getD i dm
def x4 (E : List (Int × bO)) (r i : Nat) : Prop := oq r (ep r (hV E i).1) = (hV E i).1 ∧ oq r (ep r (hV E i).2) = (hV E i).2 ∧ ep r (hV E i).1 ≠ ep r (hV E i).2
def wu (E : List (Int × bO)) (r i : Nat) (x : ao) : Prop := x ≠ ep r (hV E i).1 → x ≠ ep r (hV E i).2 → mx (hV E i).1.1 (hV E i).1.2 (hV E i).2.1 (hV E i).2.2 x.1 x.2 r = false
def D9 (E : List (Int × bO)) (r i j : Nat) : Prop := (wu E r i (ep r (hV E j).1) ∧ wu E r i (ep r (hV E j).2)) ∧ (i ≠ j → qm (hV E i) (hV E j) = true)
theorem abU {i : Nat} {o : Int} {e : bO} (h : E[i]? = some (o, e)) : hV E i = e := by
 unfold hV; rw [gF, dL, h]; rfl
theorem aco (h : ∀ i, i < E.length → x4 E r i ∧ ∀ j, j < E.length → D9 E r i j) : Gh (E.map Prod.snd) r where
 xn i hi := (h i (by rwa [iD] at hi)).1
 qy i j x hi ae aa cE cP := by
  rw [iD] at hi ae;obtain ⟨⟨a, b⟩, _⟩ := (h i hi).2 j ae;rcases aa with rfl | rfl
  ·exact a cE cP
  ·exact b cE cP
 ends i j hi ae e0 := by rw [iD] at hi ae; exact ((h i hi).2 j ae).2 e0
theorem acv (al : r ≤ 28) (h : gJ (E.map Prod.snd) = true) (hl : E.length ≤ 7) (fi : Gh (E.map Prod.snd) r) : (oa E r 1000).ph = 4 ∧ (oa E r 1000).ch = news (bt E r (ef 1000)) := by
 obtain ⟨i1, aD, _, _⟩ := KW (k := (r : Int)) (room := 1000) h hl;have hw : hA E (eV r) (ef 1000) := Fj h (by omega);have af := SV al;rw [af] at i1 hw;have ub : oa E r 1000 = la (bt E r (ef 1000)) (mc E.length 1000).toNat (fk (bt E r (ef 1000))) := by unfold oa; rw [af]
 by_cases aA : E = []
 ·subst aA
  have e : oa [] r 1000 = fk (bt [] r (ef 1000)) := by
   rw [ub]; exact I4 hw.ok _ (ti _ _) (dI 4)
  rw [e]; exact ⟨rfl, rfl⟩
 ·have aw : 0 < (bt E r (ef 1000)).n := by
   rw [hA.n];rcases tq E.length with aN | aN
   ·exact absurd (ks aN) aA
   ·exact aN
  have aal : xb (bt E r (ef 1000)) := ahf al (by rw [iD, show ef 1000 = 1000 from by decide]; omega) fi;have eW : Kept (bt E r (ef 1000)) (fk (bt E r (ef 1000))) := ⟨by show (if _ then 4 else 0) ≠ 5; split <;> decide, rfl, fun x aa => (by cases aa), .inl rfl⟩;have := PM hw.ok aal (mc E.length 1000).toNat (ti _ _) eW;rw [← ub] at this;exact acq aw i1 this aD
theorem acw (h : ∀ i, i < E.length → x4 E r i) {R i : Nat} {p q : ao} (hi : i < E.length) (hp : ep r (hV E i).1 = p) (ak : ep r (hV E i).2 = q) : (news (bt E r R))[i]? = some ([p, q], [1]) := by
 unfold news;rw [dL, uX (by rw [hA.n]; exact hi)];have b7 := (h i hi).2.2;show some (fj (ep r (hV E i).1) (ep r (hV E i).2)) = _;unfold fj;rw [if_neg b7, hp, ak]
theorem Jh (al : r ≤ 28) (aw : gJ (E.map Prod.snd) = true) {i : Nat} {o a b c d : Int} (h : E[i]? = some (o, (a, b), (c, d))) : ∃ p1 p2 q1 q2 bY b0 v1 v2 : Int,
  (au ag 18 [aE a b, ax r] (aE p1 p2) ∧ au ag 18 [aE c d, ax r] (aE q1 q2) ∧ au ag 13 [aE p1 p2, ax r] (aE bY b0) ∧ au ag 13 [aE q1 q2, ax r] (aE v1 v2)) ∧
  (ep r (hV E i).1 = (p1, p2) ∧ ep r (hV E i).2 = (q1, q2) ∧ oq r (p1, p2) = (bY, b0) ∧ oq r (q1, q2) = (v1, v2) ∧ hV E i = ((a, b), (c, d))) ∧
  (eA r p1 p2 = true ∧ eA r q1 q2 = true) ∧ (bu a b = true ∧ bu c d = true) := by
 have fa := abU h;have b7 := qJ aw i;have pk : gD (hV E i).1 = true ∧ gD (hV E i).2 = true := b7;rw [fa] at pk;have g1 := yd al pk.1;have g2 := yd al pk.2;have b1 := qK.1 pk.1;have b2 := qK.1 pk.2;simp only at b1 b2;have aq : gg (r : Int) r := abL al;refine ⟨cx a r, cx b r, cx c r, cx d r, 2 ^ r * cx a r, 2 ^ r * cx b r, 2 ^ r * cx c r, 2 ^ r * cx d r, ⟨EQ aq (by omega) (by omega) (by omega) (by omega), EQ aq (by omega) (by omega) (by omega) (by omega), qO aq g1, qO aq g2⟩, ⟨by rw [fa]; rfl, by rw [fa]; rfl, rfl, rfl, fa⟩, ⟨g1, g2⟩, ?_, ?_⟩
 ·exact (Es.1 pk.1).1
 ·exact (Es.1 pk.2).1
end
instance akY : BX ag 30 9 9 false 1 := ⟨by kernel_rfl⟩
def UN (E : List (Int × bO)) (r : Nat) (n : Nat) (R : aI) (aL : List (Nat × ah)) (bh : List (Nat × List AC)) : Prop :=
 ∃ (i : Nat) (ii : Int), i ≤ E.length ∧ n = E.length - i ∧ ii = i ∧ (∀ eH, eH < i → x4 E r eH ∧ ∀ j, j < E.length → D9 E r eH j) ∧ R = eU ∧ bh = [] ∧ aL = [(0, gX E), (1, ax r), (31, gX E), (32, ax E.length), (33, ax ii)]
def UO (E : List (Int × bO)) (r i : Nat) (ii : Int) (lr : List AC) (p1 p2 q1 q2 : Int) (n : Nat) (R : aI) (aL : List (Nat × ah)) (bh : List (Nat × List AC)) : Prop :=
 ∃ (j : Nat) (eC : Int), j ≤ E.length ∧ n = E.length - j ∧ eC = j ∧ (∀ dH, dH < j → D9 E r i dH) ∧ R = eU ∧ bh = [(6, lr), (7, jX p1 p2), (8, jX q1 q2)] ∧ aL = [(0, gX E), (1, ax r), (31, gX E), (32, ax E.length), (33, ax ii), (5, ax ii), (6, tE 6), (7, tE 7), (8, tE 8), (66, gX E), (67, ax E.length), (68, ax eC)]
def UP (E : List (Int × bO)) (r i : Nat) (ii eC : Int) (lr ij : List AC) (p1 p2 q1 q2 s1 s2 t1 t2 : Int) (n : Nat) (R : aI) (aL : List (Nat × ah)) (bh : List (Nat × List AC)) : Prop :=
 ∃ (t : Nat) (tt : Int), t ≤ 2 ∧ n = 2 - t ∧ tt = t ∧ (1 ≤ t → wu E r i (s1, s2)) ∧ (2 ≤ t → wu E r i (t1, t2)) ∧ R = eU ∧ bh = [(6, lr), (7, jX p1 p2), (8, jX q1 q2), (10, ij)] ∧ aL = [(0, gX E), (1, ax r), (31, gX E), (32, ax E.length), (33, ax ii), (5, ax ii), (6, tE 6), (7, tE 7), (8, tE 8), (66, gX E), (67, ax E.length), (68, ax eC), (9, ax eC), (10, tE 10), (81, cK 2 2 (b3 [(s1, s2), (t1, t2)])), (82, ax 2), (83, ax tt)]
def UQ (E : List (Int × bO)) (r : Nat) (ch : List (List ao × List Int)) (R0 : aI) (n : Nat) (R : aI) (aL : List (Nat × ah)) (bh : List (Nat × List AC)) : Prop :=
 ∃ (i : Nat) (ii : Int), i ≤ E.length ∧ n = E.length - i ∧ ii = i ∧ R = R0 ∧ bh = [] ∧ aL = [(0, gX E), (1, ax r), (136, sd ch), (137, ax ch.length), (138, ax ii)]
theorem acE {E : List (Int × bO)} {k : Int} : au ag 6 [gX E, ax k] (a7 true) := by
 have aS := afr (E := E);have mm := ae6
 by_cases hl : (E.length : Int) ≤ 7
 case neg =>
  rw [cA hl] at aS;refine bd (f := 6) Tryz.func6 rfl rfl rfl rfl ?_;(refine bS ?_)
  ((refine aW rfl (aY rfl aJ) ?_))
  exact ah.aK.refl _
 rw [cd hl] at aS;have bD := aeY (E := E) (by omega);cases aw : gJ (E.map Prod.snd) with
 | false =>
  rw [aw] at bD;refine bd (f := 6) Tryz.func6 rfl rfl rfl rfl ?_;(refine bS ?_)
  ((refine aW rfl (aY rfl aJ) ?_))
  exact ah.aK.refl _
 | true =>
  rw [aw] at bD;have dW := EM (abM k)
  by_cases af : k = (eV k : Int)
  case neg =>
   refine bd (f := 6) Tryz.func6 rfl rfl rfl rfl ?_;(refine bS ?_)
   ((refine aW rfl (aY rfl aJ) ?_))
   exact ah.aK.refl _
  obtain ⟨r, al, rfl⟩ : ∃ r : Nat, r ≤ 28 ∧ k = (r : Int) := ⟨eV k, Kd k, af⟩;clear af;rw [SV al] at dW;have ik : (!decide ((r : Int) = (r : Int))) = false := by simp
  refine bd (f := 6) Tryz.func6 rfl rfl rfl rfl ?_;refine tU ?_;(refine oV ?_);refine kw 184 (UN E r) E.length eU _ [] ⟨0, 0, dJ _, rfl, rfl, fun eH h => (by omega), rfl, rfl, rfl⟩ (bx.refl _) rfl ⟨rfl, rfl, rfl, rfl, rfl, trivial⟩ trivial rfl ?_;rintro n R aL bh ⟨i, ii, hi, rfl, gS, dD, rfl, rfl, rfl⟩ c9;clear c9
  by_cases hp : i < E.length
  case pos =>
   have g2 : ii < (E.length : Int) := by omega
   have g3 : 0 ≤ ii := by omega
   obtain ⟨o, a, b, c, d, g1⟩ : ∃ o a b c d, E[i]? = some (o, (a, b), (c, d)) := ⟨_, _, _, _, _, bN hp⟩;have mR := sI gS g1;obtain ⟨p1, p2, q1, q2, bY, b0, v1, v2, ⟨re, sr, ri, rj⟩, ⟨b4, ck, hM, lO, oW⟩, ⟨iG, ob⟩, w1, w2⟩ := Jh al aw g1;cases aG : bZ bY b0 a b with
   | false =>
    (repeat first | (with_reducible apply dl (id := 6) [8,9,0,1,2,3,4,5,6,7,10,11]); kernel_rfl; kernel_rfl; rfl | (with_reducible apply dl (id := 7) [0,1,2,3,4,5,6,7,8,9,10,11,12,13,14,15,16,17,18]); kernel_rfl; kernel_rfl; rfl | refine cG ?_ | (with_reducible apply fX); rfl; (repeat first | refine gu ?_ | refine e7 ?_ | (with_reducible apply bP (c := true)); rfl; rfl; ((simp only [iY]; (omega)))); (with_reducible apply fC))
    ((refine aW rfl (aY rfl aJ) ?_))
    exact ah.aK.refl _
   | true =>
   cases aO : bZ v1 v2 c d with
   | false =>
    (repeat first | (with_reducible apply dl (id := 6) [8,9,0,1,2,3,4,5,6,7,10,11]); kernel_rfl; kernel_rfl; rfl | (with_reducible apply dl (id := 7) [0,1,2,3,4,5,6,7,8,9,10,11,12,13,14,15,16,17,18]); kernel_rfl; kernel_rfl; rfl | refine cG ?_ | (with_reducible apply fX); rfl; (repeat first | refine gu ?_ | refine e7 ?_ | (with_reducible apply bP (c := true)); rfl; rfl; ((simp only [iY]; (omega))) | (with_reducible apply bP (c := false)); rfl; rfl; ((simp only [iY]; (omega)))); (with_reducible apply fC))
    ((refine aW rfl (aY rfl aJ) ?_))
    exact ah.aK.refl _
   | true =>
   cases cl : bZ p1 p2 q1 q2 with
   | true =>
    (repeat first | (with_reducible apply dl (id := 6) [8,9,0,1,2,3,4,5,6,7,10,11]); kernel_rfl; kernel_rfl; rfl | (with_reducible apply dl (id := 7) [0,1,2,3,4,5,6,7,8,9,10,11,12,13,14,15,16,17,18]); kernel_rfl; kernel_rfl; rfl | refine cG ?_ | (with_reducible apply fX); rfl; (repeat first | refine gu ?_ | refine e7 ?_ | (with_reducible apply bP (c := false)); rfl; rfl; ((simp only [iY]; (omega)))); (with_reducible apply fC))
    ((refine aW rfl (aY rfl aJ) ?_))
    exact ah.aK.refl _
   | false =>
   have ZJ : x4 E r i := by
    refine ⟨?_, ?_, ?_⟩
    ·rw [b4, hM, oW]; exact ku (iJ.1 aG).1 (iJ.1 aG).2
    ·rw [ck, lO, oW]; exact ku (iJ.1 aO).1 (iJ.1 aO).2
    ·rw [b4, ck]; intro e; rw [pR] at e; rw [iJ.2 e] at cl; cases cl
   (repeat first | (with_reducible apply dl (id := 6) [8,9,0,1,2,3,4,5,6,7,10,11]); kernel_rfl; kernel_rfl; rfl | (with_reducible apply dl (id := 7) [0,1,2,3,4,5,6,7,8,9,10,11,12,13,14,15,16,17,18]); kernel_rfl; kernel_rfl; rfl | refine cG ?_ | (with_reducible apply fX); rfl; (repeat first | refine gu ?_ | refine e7 ?_ | (with_reducible apply bP (c := false)); rfl; rfl; ((simp only [iY]; (omega)))); (with_reducible apply fC));refine kw 184 (UO E r i ii [.c (.int .i64 a), .c (.int .i64 b), .c (.int .i64 c), .c (.int .i64 d), .c (.int .i64 o)] p1 p2 q1 q2) E.length eU _ [(6, [.c (.int .i64 a), .c (.int .i64 b), .c (.int .i64 c), .c (.int .i64 d), .c (.int .i64 o)]), (7, jX p1 p2), (8, jX q1 q2)] ⟨0, 0, dJ _, rfl, rfl, fun eH h => (by omega), rfl, rfl, rfl⟩ (bx.refl _) rfl ⟨rfl, rfl, rfl, rfl, rfl, rfl, rfl, rfl, rfl, rfl, rfl, rfl, trivial⟩ ⟨rfl, rfl, rfl, trivial⟩ rfl ?_;rintro n R aL bh ⟨j, eC, ae, rfl, pg, Aa, rfl, rfl, rfl⟩ c9;clear c9
   by_cases ak : j < E.length
   case neg =>
    have cC : ¬ eC < (E.length : Int) := by omega
    (refine bc ?_);refine ⟨E.length - (i + 1), eU, _, [], by omega, ⟨i + 1, ii + 1, hp, rfl, by omega, fun eH da => ?_, rfl, rfl, rfl⟩, bx.refl _, rfl, ⟨rfl, rfl, rfl, rfl, rfl, trivial⟩, trivial, rfl⟩;rcases gK eH i with bb | jR
    ·exact dD eH bb
    ·obtain rfl : eH = i := by omega
     exact ⟨ZJ, fun dH iu => Aa dH (by omega)⟩
   have cC : eC < (E.length : Int) := by omega
   have eY : 0 ≤ eC := by omega
   obtain ⟨bU, a', bE, c', d', h1⟩ : ∃ o a b c d, E[j]? = some (o, (a, b), (c, d)) := ⟨_, _, _, _, _, bN ak⟩;have sn := sI pg h1;obtain ⟨s1, s2, t1, t2, alB, alC, alE, alF, ⟨ajx, ajy, _, _⟩, ⟨e2, z2, _, _, z5⟩, ⟨ajm, ajn⟩, w3, kz⟩ := Jh al aw h1;(repeat first | (with_reducible apply dl (id := 12) [0,1,2,3,4,5,6,7,10,8,9]); kernel_rfl; kernel_rfl; rfl | refine cG ?_ | refine iF ?_);refine kw 184 (UP E r i ii eC [.c (.int .i64 a), .c (.int .i64 b), .c (.int .i64 c), .c (.int .i64 d), .c (.int .i64 o)] [.c (.int .i64 a'), .c (.int .i64 bE), .c (.int .i64 c'), .c (.int .i64 d'), .c (.int .i64 bU)] p1 p2 q1 q2 s1 s2 t1 t2) 2 eU _ [(6, [.c (.int .i64 a), .c (.int .i64 b), .c (.int .i64 c), .c (.int .i64 d), .c (.int .i64 o)]), (7, jX p1 p2), (8, jX q1 q2), (10, [.c (.int .i64 a'), .c (.int .i64 bE), .c (.int .i64 c'), .c (.int .i64 d'), .c (.int .i64 bU)])] ⟨0, 0, dJ _, rfl, rfl, fun h => (by omega), fun h => (by omega), rfl, rfl, rfl⟩ (bx.refl _) rfl ⟨rfl, rfl, rfl, rfl, rfl, rfl, rfl, rfl, rfl, rfl, rfl, rfl, rfl, rfl, rfl, rfl, rfl, trivial⟩ ⟨rfl, rfl, rfl, rfl, trivial⟩ rfl ?_;rintro n R aL bh ⟨t, tt, aB, rfl, aa6, f1, f2, rfl, rfl, rfl⟩ c9;clear c9
   by_cases hu : t < 2
   case pos =>
    obtain ⟨eR, q5, g4, hH⟩ : ∃ eR q5, [(s1, s2), (t1, t2)][t]? = some (eR, q5) ∧ eA r eR q5 = true := by
     match t, hu with
     | 0, _ => exact ⟨s1, s2, rfl, ajm⟩
     | 1, _ => exact ⟨t1, t2, rfl, ajn⟩
    have Uw := uE aa6 g4;have b0 : tt < 2 := by omega
    have gf : 0 ≤ tt := by omega
    have Lb := aeJ (a1 := a) (a2 := b) (b1 := c) (b2 := d) (q1 := eR) (q2 := q5) (k := (r : Int)) (by omega) (Py hH).1 (Py hH).2
    have yy : (bZ eR q5 p1 p2 = true ∨ bZ eR q5 q1 q2 = true ∨ mx a b c d eR q5 r = false) → (1 ≤ t + 1 → wu E r i (s1, s2)) ∧ (2 ≤ t + 1 → wu E r i (t1, t2)) := fun aR => by
     have af : wu E r i (eR, q5) := by
      intro cE cP;rw [b4] at cE;rw [ck] at cP;rcases aR with aR | aR | aR
      ·exact absurd (ku (iJ.1 aR).1 (iJ.1 aR).2) cE
      ·exact absurd (ku (iJ.1 aR).1 (iJ.1 aR).2) cP
      ·rw [oW]; exact aR
     match t, hu, g4, f1 with
     | 0, _, g4, _ =>
      cases g4;exact ⟨fun _ => af, fun h => (by omega)⟩
     | 1, _, g4, f1 =>
      cases g4;exact ⟨fun _ => f1 (by decide), fun _ => af⟩
    cases ey : bZ eR q5 p1 p2 with
    | true =>
     (repeat first | refine cG ?_ | (with_reducible apply fX); rfl; (repeat first | refine gu ?_ | (with_reducible apply bP (c := false)); rfl; rfl; ((simp only [iY]; (omega)))); (with_reducible apply fC));exact ⟨2 - (t + 1), eU, _, [(6, [.c (.int .i64 a), .c (.int .i64 b), .c (.int .i64 c), .c (.int .i64 d), .c (.int .i64 o)]), (7, jX p1 p2), (8, jX q1 q2), (10, [.c (.int .i64 a'), .c (.int .i64 bE), .c (.int .i64 c'), .c (.int .i64 d'), .c (.int .i64 bU)])], by omega, ⟨t + 1, tt + 1, hu, rfl, by omega, (yy (.inl ey)).1, (yy (.inl ey)).2, rfl, rfl, rfl⟩, bx.refl _, rfl, ⟨rfl, rfl, rfl, rfl, rfl, rfl, rfl, rfl, rfl, rfl, rfl, rfl, rfl, rfl, rfl, rfl, rfl, trivial⟩, ⟨rfl, rfl, rfl, rfl, trivial⟩, rfl⟩
    | false =>
    cases k2 : bZ eR q5 q1 q2 with
    | true =>
     (repeat first | refine cG ?_ | (with_reducible apply fX); rfl; (repeat first | refine gu ?_ | (with_reducible apply bP (c := true)); rfl; rfl; ((simp only [iY]; (omega))) | (with_reducible apply bP (c := false)); rfl; rfl; ((simp only [iY]; (omega)))); (with_reducible apply fC));exact ⟨2 - (t + 1), eU, _, [(6, [.c (.int .i64 a), .c (.int .i64 b), .c (.int .i64 c), .c (.int .i64 d), .c (.int .i64 o)]), (7, jX p1 p2), (8, jX q1 q2), (10, [.c (.int .i64 a'), .c (.int .i64 bE), .c (.int .i64 c'), .c (.int .i64 d'), .c (.int .i64 bU)])], by omega, ⟨t + 1, tt + 1, hu, rfl, by omega, (yy (.inr (.inl k2))).1, (yy (.inr (.inl k2))).2, rfl, rfl, rfl⟩, bx.refl _, rfl, ⟨rfl, rfl, rfl, rfl, rfl, rfl, rfl, rfl, rfl, rfl, rfl, rfl, rfl, rfl, rfl, rfl, rfl, trivial⟩, ⟨rfl, rfl, rfl, rfl, trivial⟩, rfl⟩
    | false =>
    cases nE : mx a b c d eR q5 r with
    | false =>
     rw [nE] at Lb;(repeat first | refine cG ?_ | (with_reducible apply fX); rfl; (repeat first | refine gu ?_ | refine e7 ?_ | (with_reducible apply bP (c := true)); rfl; rfl; ((simp only [iY]; (omega)))); (with_reducible apply fC));exact ⟨2 - (t + 1), eU, _, [(6, [.c (.int .i64 a), .c (.int .i64 b), .c (.int .i64 c), .c (.int .i64 d), .c (.int .i64 o)]), (7, jX p1 p2), (8, jX q1 q2), (10, [.c (.int .i64 a'), .c (.int .i64 bE), .c (.int .i64 c'), .c (.int .i64 d'), .c (.int .i64 bU)])], by omega, ⟨t + 1, tt + 1, hu, rfl, by omega, (yy (.inr (.inr nE))).1, (yy (.inr (.inr nE))).2, rfl, rfl, rfl⟩, bx.refl _, rfl, ⟨rfl, rfl, rfl, rfl, rfl, rfl, rfl, rfl, rfl, rfl, rfl, rfl, rfl, rfl, rfl, rfl, rfl, trivial⟩, ⟨rfl, rfl, rfl, rfl, trivial⟩, rfl⟩
    | true =>
     rw [nE] at Lb;(repeat first | refine cG ?_ | (with_reducible apply fX); rfl; (repeat first | refine gu ?_ | refine e7 ?_ | (with_reducible apply bP (c := true)); rfl; rfl; ((simp only [iY]; (omega)))); (with_reducible apply fC))
     ((refine aW rfl (aY rfl aJ) ?_))
     exact ah.aK.refl _
   have b0 : ¬ tt < 2 := by omega
   have Da := f1 (by omega);have sM := f2 (by omega);have vh := afO (a1 := a) (a2 := b) (b1 := c) (b2 := d) (c1 := a') (c2 := bE) (d1 := c') (d2 := d');rw [show lC a b c d a' bE c' d' = gC ((a, b), (c, d)) ((a', bE), (c', d')) from Eg (a := ((a, b), (c, d))) (b := ((a', bE), (c', d'))) w1 w2 w3 kz] at vh
   by_cases akd : ii = eC
   ·(repeat first | refine cG ?_ | (with_reducible apply fX); rfl; (repeat first | refine gu ?_ | (with_reducible apply bP (c := false)); rfl; rfl; ((simp only [iY]; (omega)))); (with_reducible apply fC));refine ⟨E.length - (j + 1), eU, _, [(6, [.c (.int .i64 a), .c (.int .i64 b), .c (.int .i64 c), .c (.int .i64 d), .c (.int .i64 o)]), (7, jX p1 p2), (8, jX q1 q2)], by omega, ⟨j + 1, eC + 1, ak, rfl, by omega, fun dH iu => ?_, rfl, rfl, rfl⟩, bx.refl _, rfl, ⟨rfl, rfl, rfl, rfl, rfl, rfl, rfl, rfl, rfl, rfl, rfl, rfl, trivial⟩, ⟨rfl, rfl, rfl, trivial⟩, rfl⟩;rcases gK dH j with bb | jR
    ·exact Aa dH bb
    ·obtain rfl : dH = j := by omega
     exact ⟨⟨by rw [e2]; exact Da, by rw [z2]; exact sM⟩, fun b7 => absurd (by omega) b7⟩
   ·cases Hb : qm ((a, b), (c, d)) ((a', bE), (c', d')) with
    | true =>
     rw [show tZ (gC ((a, b), (c, d)) ((a', bE), (c', d'))) a b c d a' bE c' d' = true from Hb] at vh;(repeat first | refine cG ?_ | (with_reducible apply fX); rfl; (repeat first | refine gu ?_ | refine e7 ?_ | (with_reducible apply bP (c := true)); rfl; rfl; ((simp only [iY]; (omega)))); (with_reducible apply fC));refine ⟨E.length - (j + 1), eU, _, [(6, [.c (.int .i64 a), .c (.int .i64 b), .c (.int .i64 c), .c (.int .i64 d), .c (.int .i64 o)]), (7, jX p1 p2), (8, jX q1 q2)], by omega, ⟨j + 1, eC + 1, ak, rfl, by omega, fun dH iu => ?_, rfl, rfl, rfl⟩, bx.refl _, rfl, ⟨rfl, rfl, rfl, rfl, rfl, rfl, rfl, rfl, rfl, rfl, rfl, rfl, trivial⟩, ⟨rfl, rfl, rfl, trivial⟩, rfl⟩;rcases gK dH j with bb | jR
     ·exact Aa dH bb
     ·obtain rfl : dH = j := by omega
      exact ⟨⟨by rw [e2]; exact Da, by rw [z2]; exact sM⟩, fun _ => by rw [oW, z5]; exact Hb⟩
    | false =>
     rw [show tZ (gC ((a, b), (c, d)) ((a', bE), (c', d'))) a b c d a' bE c' d' = false from Hb] at vh;(repeat first | refine cG ?_ | (with_reducible apply fX); rfl; (repeat first | refine gu ?_ | refine e7 ?_ | (with_reducible apply bP (c := true)); rfl; rfl; ((simp only [iY]; (omega)))); (with_reducible apply fC))
     ((refine aW rfl (aY rfl aJ) ?_))
     exact ah.aK.refl _
  case neg =>
   have p2 : ¬ ii < (E.length : Int) := by omega
   have HU : ∀ i, i < E.length → x4 E r i ∧ ∀ j, j < E.length → D9 E r i j := fun eH da => dD eH (by omega);obtain ⟨f1, f2⟩ := acv al aw (by omega) (aco HU);have ic := acm (k := (r : Int)) (room := 1000) aw (by omega) 126 (ca := dK) nW;obtain ⟨i1, _, _, _⟩ := KW (k := (r : Int)) (room := 1000) aw (by omega);have hw : hA E (eV r) (ef 1000) := Fj aw (by omega);have vw := (Jb hw i1).om 126 (ca := dK) nW rfl rfl;have j7 := (Ja (E := E) (r := eV r) (rm := ef 1000) (s := oa E r 1000)).om 126 (ca := dK) nW rfl rfl;generalize oa E r 1000 = gy at *;have g1 : (gy.ph : Int) = 4 := by rw [f1]; rfl
   have hlen : gy.ch.length = E.length := by rw [f2, adT]
   (refine bc ?_);refine DM 126 dK rfl rfl rfl rfl ic rfl rfl rfl rfl (fun cs yW bq => ?_);rw [JO];(refine bc ?_);refine nT 126 dK rfl rfl rfl rfl rfl rfl rfl rfl j7 bq (bx.refl _) (fun M3 p6 gZ => ?_);rw [show bX (aI.a6 dK p6) (aI.a6 dK yW) = aI.a6 dK p6 from bq.bX gZ];(refine bc ?_);refine nT 126 dK rfl rfl rfl rfl rfl rfl rfl rfl vw gZ (bx.refl _) (fun G3 o3 lg => ?_);rw [show bX (aI.a6 dK o3) (aI.a6 dK p6) = aI.a6 dK o3 from gZ.bX lg];(refine bc ?_);refine kw 184 (UQ E r gy.ch o3) E.length o3 _ [] ⟨0, 0, dJ _, rfl, rfl, rfl, rfl, rfl⟩ (bx.refl _) rfl ⟨rfl, rfl, rfl, rfl, rfl, trivial⟩ trivial rfl ?_;rintro n R aL bh ⟨i, ii, hi, rfl, gS, rfl, rfl, rfl⟩ c9;clear c9
   by_cases ak : i < E.length
   case neg =>
    have q2 : ¬ ii < (gy.ch.length : Int) := by omega
    (refine oV ?_)
    ((refine aW rfl (aY rfl aJ) ?_))
    exact ah.aK.refl _
   obtain ⟨o, a, b, c, d, h1⟩ : ∃ o a b c d, E[i]? = some (o, (a, b), (c, d)) := ⟨_, _, _, _, _, bN ak⟩;obtain ⟨p1, p2, q1, q2, bY, b0, v1, v2, ⟨_, _, ri, rj⟩, ⟨b4, ck, hM, lO, oW⟩, _, _, _⟩ := Jh al aw h1;have aj := acw (R := ef 1000) (fun i hi => (HU i hi).1) ak b4 ck;rw [← f2] at aj;have mR : ((eG gy.ch).drop (ii.toNat * 2)).take 2 = [.p (cM 2 2 [.c (.int .i64 p1), .c (.int .i64 p2), .c (.int .i64 q1), .c (.int .i64 q2)]), .p (cM 1 1 [.c (.int .i64 1)])] := xq gS aj;have ake : (!decide (((2 : Nat) : Int) = 2)) = false := rfl;have akf : (!decide ((1 : Int) = 1)) = false := rfl;have sn := sI gS h1;have q2 : ii < (gy.ch.length : Int) := by omega
   have bB : 0 ≤ ii := by omega
   have cS : ii < (E.length : Int) := by omega
   have lZ := (HU i ak).1;unfold x4 at lZ;rw [b4, ck, hM, lO, oW] at lZ;obtain ⟨iG, ob, _⟩ := lZ;rw [pR] at iG ob;have aG : bZ bY b0 a b = true := iJ.2 iG;have aO : bZ v1 v2 c d = true := iJ.2 ob;(repeat first | (with_reducible apply dl (id := 28) [0,1,2,3,4,5,6,7,8,9,10,11,12,13,14,15,16,17,18,19,20,21,22,23,24,25,26,27,28,29,30,31,32,33,34,35,36,37,38]); kernel_rfl; kernel_rfl; rfl | refine cG ?_ | (with_reducible apply fX); rfl; (repeat first | refine gu ?_ | refine e7 ?_ | (with_reducible apply bP (c := false)); rfl; rfl; ((simp only [iY]; (omega)))); (with_reducible apply fC));exact ⟨E.length - (i + 1), R, _, [], by omega, ⟨i + 1, ii + 1, by omega, rfl, by omega, rfl, rfl, rfl⟩, bx.refl _, rfl, ⟨rfl, rfl, rfl, rfl, rfl, trivial⟩, trivial, rfl⟩
end Go.Proofs.YtbcecodakfejaaaGreat
namespace Go.Proofs.YtbcecodakfejaaaGreat
theorem acp (E : List (Int × br.bO)) (k : Int) (_ : (E.length : Int) ≤ 9223372036854775807) (_ : -9223372036854775808 ≤ k ∧ k ≤ 9223372036854775807) : au ag 6 [gX E, ax k] (a7 true) := acE
end Go.Proofs.YtbcecodakfejaaaGreat
namespace Go.Proofs.YtbcecodakfejaaaGreat
open Go.ChangeShapes Go.WideShapes Go.ChangeAt Go.RowKit Go.Joins
theorem laidOut : laidOutB ag = true := by kernel_rfl
theorem NU : ∀ (L : List (List Int)), (∀ x ∈ L, x.length = 5) → ∃ l : List (Int × br.bO), l.length = L.length ∧ sL L = qo l
 | [], _ => ⟨[], rfl, rfl⟩
 | x :: L, h => by
  obtain ⟨l, h1, h2⟩ := NU L fun y ai => h y (by simp [ai]);have aa := h x (by simp)
  match x, aa with
  | [a, b, c, d, o], _ =>
   refine ⟨(o, (a, b), (c, d)) :: l, by simp [h1], ?_⟩;show sL ([a, b, c, d, o] :: L) = CO (o, (a, b), (c, d)) ++ qo l;rw [← h2];unfold sL;rw [List.flatten_cons, qR];rfl
theorem Yh {H : Type} {enc : TypeId × Value → H} {P : Program} {W : World} {e : TypeId} {g0 g1 g2 f0 f1 : Field} (he : P.underlying e = some (.struct #[g0, g1, g2])) (ce : P.cellsOf e = 5) (mG : g0.offset = 0) (p1 : g1.offset = 2) (p2 : g2.offset = 4) (d0 : P.cellsOf g0.type = 2) (aB : g1.type = g0.type) (d2 : P.cellsOf g2.type = 1) (bo : P.underlying g2.type = some (.int .i64))
  (an : P.underlying g0.type = some (.struct #[f0, f1])) (EF : f0.offset = 0) (o1 : f1.offset = 1) (hb : P.cellsOf f0.type = 1) (c1 : P.cellsOf f1.type = 1) (eW : P.underlying f0.type = some (.int .i64)) (ba : P.underlying f1.type = some (.int .i64))
  {n : Nat} {cs : List Value} {d : DataW H × List MemPlace} (h : DataW.trod enc P W 0 (fun _ => true) true n e cs = some d) : ∃ a b x y v : Int, cs = [.int .i64 a, .int .i64 b, .int .i64 x, .int .i64 y, .int .i64 v] := by
 obtain ⟨xs, k, _, _, c4, pr, ap⟩ := DataW.trod_struct he h;rw [ce] at c4
 match cs, c4, xs, pr with
 | [u, v, w, r, s], _, [dh, aG, aO], _ =>
  have q0 := ap 0 g0 rfl;have q1 := ap 1 g1 rfl;have q2 := ap 2 g2 rfl;simp [mG, p1, p2, d0, d2, aB] at q0 q1 q2;obtain ⟨a, b, aa⟩ := Ns an d0 EF o1 hb c1 eW ba q0;obtain ⟨x, y, ai⟩ := Ns an d0 EF o1 hb c1 eW ba q1;obtain ⟨z, aN⟩ := Hf bo q2 rfl;cases aa; cases ai; cases aN;exact ⟨a, b, x, y, z, rfl⟩
theorem aep {H : Type} {enc : TypeId × Value → H} {P : Program} {W : World} {t e : TypeId} (aB : P.underlying t = some (.slice e)) (ce : P.cellsOf e = 5)
  (zM : ∀ (n : Nat) (cs : List Value) d, DataW.trod enc P W 0 (fun _ => true) true n e cs = some d → ∃ a b x y v : Int, cs = [.int .i64 a, .int .i64 b, .int .i64 x, .int .i64 y, .int .i64 v])
  {v : Value} {d : DataW H} {p : List MemPlace} (hv : ∃ a len cap, v = .slice a len cap) (aA : DataW.Trod enc P W 0 (fun _ => true) true t v d p) :
  ∃ l : List (Int × br.bO), (l.length : Int) ≤ 9223372036854775807 ∧ de (fun _ => True) id W (gX l) v := by
 obtain ⟨L, h1, h2, h3⟩ := aeq 5 aB ce (fun n cs d h => by obtain ⟨a, b, x, y, v, e⟩ := zM n cs d h; exact ⟨[a, b, x, y, v], e⟩) hv aA (by decide);obtain ⟨l, aD, cU⟩ := NU L h2;rw [cU] at h3;refine ⟨l, by rw [aD]; exact h1, ?_⟩;rw [← aD] at h3;exact h3
theorem agd {P : Program} {f : FuncId} {args : List ah} (h : au P f args (a7 true)) (jM : List Value) (W : World) (hl : args.length = jM.length) (al : ∀ (i : Nat) (x : ah) (v : Value), args[i]? = some x → jM[i]? = some v → de (fun _ => True) id W x v) :
  Calls P f jM.toArray W fun e bk => e = .returned (.bool true) ∧ Below W.heap.size W bk :=
 (h.call (fun _ => True) W jM ⟨hl, al⟩).mono fun e bk ⟨v, he, ⟨hv, _⟩, ab⟩ => by subst hv; exact ⟨he, ab⟩
end Go.Proofs.YtbcecodakfejaaaGreat
