/-
  My own texts, without what this claim does not need. My own text.
-/
import Derived.Deep.SlicePairs
import Derived.Carry
import Derived.Test.YtbcecodakfejaaaGreatSNodedK11
set_option maxRecDepth 100000
set_option maxHeartbeats 64000000
set_option linter.unusedVariables false
set_option linter.unusedSimpArgs false
set_option linter.unusedSectionVars false
open Go.Proofs.Tryz renaming prog → ag
namespace Go.Proofs.YtbcecodakfejaaaGreat
open Go.RowKit
abbrev rf (M : eI) : ah := sM M.k M.n M.d M.m M.e M.p1 M.p2 M.q1 M.q2
theorem R9 : ah.aQ (.w (.agg [.c (.int .i64 0), .c (.bool false), .c (.slice none 0 0), .c (.bool false), .c (.slice none 0 0), .c (.bool false), .c (.slice none 0 0), .c (.bool false), .c (.slice none 0 0), .c (.int .i64 0), .c (.int .i64 0), .c (.int .i64 0), .c (.int .i64 0)])) (rf e7) := R8
theorem aez {a1 a2 b1 b2 c1 c2 d1 d2 p q r s t u w X Y x y d : Int} {eW z2 z3 z4 : Bool} {M : eI}
  (ba : aC ag 27 [aK a1 a2] (bk true)) (ec : aC ag 27 [aK b1 b2] (bk true)) (gr : aC ag 27 [aK c1 c2] (bk true)) (mZ : aC ag 27 [aK d1 d2] (bk true))
  (rr : aC ag 78 [aK a1 a2, aK b1 b2] (.cr [.one (.c (.int .i64 p)), .one (.c (.int .i64 q)), jY r])) (rs : aC ag 78 [aK c1 c2, aK d1 d2] (.cr [.one (.c (.int .i64 s)), .one (.c (.int .i64 t)), jY u]))
  (Bb : aC ag 80 [aH 0] (cO 0)) (ru : aC ag 80 [aH p] (cO p)) (uB : aC ag 80 [aH q] (cO q)) (Bc : aC ag 80 [aH s] (cO s)) (Bd : aC ag 80 [aH t] (cO t))
  (rp : aC ag 79 [cO p, cO q, cO s, cO t] (cO w)) (c : Int) (A8 : aC ag 76 [cO w, cO 0] (aH c)) (aj : ¬ c = 0)
  (lM : aC ag 79 [cO r, cO q, cO u, cO t] (cO X)) (kN : aC ag 79 [cO p, cO r, cO s, cO u] (cO Y))
  (rv : aC ag 81 [cO X, cO w] (oc x d)) (uD : aC ag 81 [cO Y, cO w] (oc y d))
  (s3 : aC ag 82 [oc x d, aH a1, aH b1] (bk eW)) (s4 : aC ag 82 [oc y d, aH a2, aH b2] (bk z2)) (Tt : aC ag 82 [oc x d, aH c1, aH d1] (bk z3)) (Tu : aC ag 82 [oc y d, aH c2, aH d2] (bk z4))
  (fP : (if (eW && z2 && z3 && z4) = true then gl x d y d else e7) = M) : aC ag 46 [aK a1 a2, aK b1 b2, aK c1 c2, aK d1 d2] (rf M) := by
 have cs : (eW = true ∧ z2 = true ∧ z3 = true ∧ z4 = true ∧ M = gl x d y d) ∨ (eW = true ∧ z2 = true ∧ z3 = true ∧ z4 = false ∧ M = e7) ∨ (eW = true ∧ z2 = true ∧ z3 = false ∧ M = e7) ∨ (eW = true ∧ z2 = false ∧ M = e7) ∨ (eW = false ∧ M = e7) := by
  rw [← fP]; cases eW <;> cases z2 <;> cases z3 <;> cases z4 <;> simp
 clear fP;refine bm (f := 46) Tryz.func46 rfl rfl rfl rfl ?_;(refine bY ?_);clear ba ec gr mZ rr rs Bb ru uB Bc Bd rp lM kN A8 rv uD;rcases cs with ⟨rfl, rfl, rfl, rfl, rfl⟩ | ⟨rfl, rfl, rfl, rfl, rfl⟩ | ⟨rfl, rfl, rfl, rfl⟩ | ⟨rfl, rfl, rfl⟩ | ⟨rfl, rfl⟩
 all_goals
  (refine bY ?_)
  ((refine bc rfl (cu rfl rfl rfl aN) ?_))
  first | exact R9 | exact ah.aQ.refl _
def ua : List (Int × Int) → List AC
 | [] => []
 | p :: l => .c (.int .i64 p.1) :: .c (.int .i64 p.2) :: ua l
abbrev I6 (l : List (Int × Int)) : ah := cy 2 l.length (ua l)
theorem Qz : ∀ (l : List (Int × Int)) (i : Nat) (p : Int × Int), l[i]? = some p → ((ua l).drop (i * 2)).take 2 = [.c (.int .i64 p.1), .c (.int .i64 p.2)]
 | [], i, p, h => by simp at h
 | q :: l, 0, p, h => by simp at h; subst h; rfl
 | q :: l, i + 1, p, h => by
  rw [show (i + 1) * 2 = i * 2 + 1 + 1 by omega];simp only [ua, List.drop_succ_cons];exact Qz l i p (by simpa using h)
theorem aem {l : List (Int × Int)} {j : Int} {i : Nat} {p : Int × Int} (ae : j = i) (h : l[i]? = some p) : ((ua l).drop (j.toNat * 2)).take 2 = [.c (.int .i64 p.1), .c (.int .i64 p.2)] := by
 subst ae;exact Qz l i p h
theorem Qw {l : List (Int × Int)} {i : Nat} (h : i < l.length) : ∃ x y, l[i]? = some (x, y) := ⟨_, _, bN h⟩
theorem QA {l : List (Int × Int)} {j : Int} {i : Nat} {x y : Int} (ae : j = i) (h : l[i]? = some (x, y)) : ((ua l).drop (j.toNat * 2)).take 2 = [.c (.int .i64 x), .c (.int .i64 y)] := aem ae h
theorem VA (a1 a2 b1 b2 c1 c2 : Int) : bW a1 a2 c1 c2 b1 b2 = -bW a1 a2 b1 b2 c1 c2 := by unfold bW; grind
theorem Vy (a1 a2 b1 b2 c1 c2 : Int) : hU a1 a2 c1 c2 b1 b2 = -hU a1 a2 b1 b2 c1 c2 := by
 unfold hU;rw [VA a1 a2];cases cf a1 a2 <;> cases cf b1 b2 <;> cases cf c1 c2 <;> simp
def pv (n a b : Int) : Bool := (decide (a ≤ n) && decide (n ≤ b)) || (decide (b ≤ n) && decide (n ≤ a))
theorem PK {n a b : Int} {r : Bool} (ap : pv n a b = r) : aC ag 119 [aH n, aH a, aH b] (bk r) := by
  have cs : (a ≤ n ∧ n ≤ b ∧ r = true) ∨ (a ≤ n ∧ ¬ n ≤ b ∧ b ≤ n ∧ n ≤ a ∧ r = true) ∨ (a ≤ n ∧ ¬ n ≤ b ∧ b ≤ n ∧ ¬ n ≤ a ∧ r = false) ∨ (a ≤ n ∧ ¬ n ≤ b ∧ ¬ b ≤ n ∧ r = false) ∨ (¬ a ≤ n ∧ b ≤ n ∧ n ≤ a ∧ r = true) ∨ (¬ a ≤ n ∧ b ≤ n ∧ ¬ n ≤ a ∧ r = false) ∨ (¬ a ≤ n ∧ ¬ b ≤ n ∧ r = false) := by
    rw [← ap]; unfold pv
    by_cases q1 : a ≤ n <;> by_cases q2 : n ≤ b <;> by_cases bO : b ≤ n <;> by_cases dj : n ≤ a <;> simp [q1, q2, bO, dj]
  clear ap;rcases cs with ⟨q1, q2, rfl⟩ | ⟨q1, q2, bO, dj, rfl⟩ | ⟨q1, q2, bO, dj, rfl⟩ | ⟨q1, q2, bO, rfl⟩ | ⟨q1, q2, bO, rfl⟩ | ⟨q1, q2, bO, rfl⟩ | ⟨q1, q2, rfl⟩
  all_goals first
    | (exfalso; omega)
    | (refine bm (f := 119) Tryz.func119 rfl rfl rfl rfl ?_
       (repeat first | refine ez ?_ | (with_reducible apply cW (c := true)); rfl; rfl; (exact cw (by omega)) | (with_reducible apply cW (c := false)); rfl; rfl; (exact c3 (by omega)))
       ((refine bc rfl (bf rfl aN) ?_))
       first | exact ah.aQ.refl _ | exact ah.aQ.of_eq (by rw [cw dj]; rfl) | exact ah.aQ.of_eq (by rw [c3 dj]; rfl) | exact ah.aQ.of_eq (by rw [cw bO]; rfl) | exact ah.aQ.of_eq (by rw [c3 bO]; rfl))
theorem Vx {a1 a2 b1 b2 p1 p2 : Int} : hU a1 a2 p1 p2 b1 b2 = 0 ↔ hU a1 a2 b1 b2 p1 p2 = 0 := by rw [Vy]; omega
theorem KG {n a b : Int} : pv n a b = (decide (fU a b ≤ n) && decide (n ≤ fT a b)) := by
  unfold pv fU fT;rw [lD];simp only [pX, dc, cq]
  split <;> split <;> omega
theorem P1 {p1 p2 a1 a2 b1 b2 : Int} : aC ag 83 [aK p1 p2, aK a1 a2, aK b1 b2] (bk (l6 p1 p2 a1 a2 b1 b2)) := by
  have ba := xz (x := p1) (y := p2) rfl;have ec := xz (x := a1) (y := a2) rfl;have gr := xz (x := b1) (y := b2) rfl;have aT := adJ (o1 := a1) (o2 := a2) (a1 := p1) (a2 := p2) (b1 := b1) (b2 := b2);have mm := PK (n := p1) (a := a1) (b := b1) rfl;have rl := PK (n := p2) (a := a2) (b := b2) rfl
  have cs : (cf p1 p2 = false ∧ l6 p1 p2 a1 a2 b1 b2 = false) ∨ (cf p1 p2 = true ∧ cf a1 a2 = false ∧ l6 p1 p2 a1 a2 b1 b2 = false) ∨ (cf p1 p2 = true ∧ cf a1 a2 = true ∧ cf b1 b2 = false ∧ l6 p1 p2 a1 a2 b1 b2 = false)
      ∨ (cf p1 p2 = true ∧ cf a1 a2 = true ∧ cf b1 b2 = true ∧ ¬ hU a1 a2 p1 p2 b1 b2 = 0 ∧ l6 p1 p2 a1 a2 b1 b2 = false)
      ∨ (cf p1 p2 = true ∧ cf a1 a2 = true ∧ cf b1 b2 = true ∧ hU a1 a2 p1 p2 b1 b2 = 0 ∧ pv p1 a1 b1 = false ∧ l6 p1 p2 a1 a2 b1 b2 = false)
      ∨ (cf p1 p2 = true ∧ cf a1 a2 = true ∧ cf b1 b2 = true ∧ hU a1 a2 p1 p2 b1 b2 = 0 ∧ pv p1 a1 b1 = true ∧ l6 p1 p2 a1 a2 b1 b2 = pv p2 a2 b2) := by
    rw [Vx];have e : hU a1 a2 b1 b2 p1 p2 = if (cf a1 a2 && cf b1 b2 && cf p1 p2) = true then bW a1 a2 b1 b2 p1 p2 else 0 := rfl
    have aM : eJ (fU a1 b1) (fU a2 b2) (fT a1 b1) (fT a2 b2) p1 p2 = (pv p1 a1 b1 && pv p2 a2 b2) := by
      rw [KG, KG]; unfold eJ; simp only [Bool.and_assoc]
    rw [e];unfold l6;rw [aM];generalize bW a1 a2 b1 b2 p1 p2 = c at *;generalize cf p1 p2 = ct at *;generalize cf a1 a2 = cz at *;generalize cf b1 b2 = h4 at *;generalize pv p1 a1 b1 = ml at *;generalize pv p2 a2 b2 = xX at *;cases ct <;> cases cz <;> cases h4 <;> cases ml <;> cases xX <;> by_cases aj : c = 0 <;> simp [aj]
  generalize hU a1 a2 p1 p2 b1 b2 = c at *;rcases cs with ⟨h1, h⟩ | ⟨h1, h2, h⟩ | ⟨h1, h2, an, h⟩ | ⟨h1, h2, an, aE, h⟩ | ⟨h1, h2, an, aE, cY, h⟩ | ⟨h1, h2, an, aE, cY, h⟩ <;> rw [h] <;> clear h <;> simp only [h1] at ba <;> (try simp only [h2] at ec) <;> (try simp only [an] at gr) <;> (try simp only [cY] at mm)
  all_goals
    refine bm (f := 83) Tryz.func83 rfl rfl rfl rfl ?_;(repeat first | refine ez ?_ | refine jB ?_ | (with_reducible apply cW (c := true)); rfl; rfl; (exact cw (by omega)) | (with_reducible apply cW (c := false)); rfl; rfl; (exact c3 (by omega)))
    ((refine bc rfl (bf rfl aN) ?_))
    exact ah.aQ.refl _
instance aiL : kR ag 129 38 2 16 := ⟨by kernel_rfl⟩
def sx : List (Int × Int) → List Value
 | [] => []
 | p :: l => .int .i64 p.1 :: .int .i64 p.2 :: sx l
theorem QC : ∀ l, (sx l).map .c = ua l
 | [] => rfl
 | p :: l => by simp [sx, ua, QC l]
theorem QB : ∀ l m, sx (l ++ m) = sx l ++ sx m
 | [], m => rfl
 | p :: l, m => by simp [sx, QB l m]
abbrev JN : List AC := [.c (.int .i64 0), .c (.bool false), .c (.slice none 0 0), .c (.bool false), .c (.slice none 0 0), .c (.bool false), .c (.slice none 0 0), .c (.bool false), .c (.slice none 0 0), .c (.int .i64 0), .c (.int .i64 0), .c (.int .i64 0), .c (.int .i64 0)]
theorem UL (p1 p2 q1 q2 : Int) : ah.aQ (.w (.agg [.c (.int .i64 2), .c (.bool false), .c (.slice none 0 0), .c (.bool false), .c (.slice none 0 0), .c (.bool false), .c (.slice none 0 0), .c (.bool false), .c (.slice none 0 0), .c (.int .i64 p1), .c (.int .i64 p2), .c (.int .i64 q1), .c (.int .i64 q2)])) (rf (kc p1 p2 q1 q2)) :=
 ah.aQ.agg ⟨.refl _, .refl _, ta, .refl _, ta, .refl _, ta, .refl _, ta, .refl _, .refl _, .refl _, .refl _, trivial⟩
def S8 (l : List (Int × Int)) (f : Int × Int → Bool) (a1 a2 b1 b2 c1 c2 d1 d2 : Int) (k : Nat) (t : mX) (aL : List (Nat × ah)) (bd : List (Nat × List AC)) : Prop :=
 ∃ (i : Nat) (j : Int), i ≤ l.length ∧ k = l.length - i ∧ t.n = ((l.take i).filter f).length ∧ t.xs = sx ((l.take i).filter f) ∧ j = i
  ∧ aL = [(4, jg 4 0), (5, jg 5 0), (6, jg 6 0), (7, jg 7 0), (8, jg 8 0), (18, aR t.v), (19, I6 l), (20, aH j)]
  ∧ bd = [(4, [.c (.int .i64 a1), .c (.int .i64 a2)]), (5, [.c (.int .i64 b1), .c (.int .i64 b2)]), (6, [.c (.int .i64 c1), .c (.int .i64 c2)]), (7, [.c (.int .i64 d1), .c (.int .i64 d2)]), (8, JN)]
def S9 (x : Int × Int) (l : List (Int × Int)) (k : Nat) (aL : List (Nat × ah)) (bd : List (Nat × List AC)) : Prop :=
 ∃ (i : Nat) (j l1 l2 h1 h2 : Int), i ≤ l.length ∧ k = l.length - i ∧ (l1, l2) = (l.take i).foldl iZ x ∧ (h1, h2) = (l.take i).foldl kH x ∧ j = (i : Int) + 1
  ∧ aL = [(8, jg 8 0), (18, I6 (x :: l)), (21, jg 21 0), (22, jg 22 0), (23, aH j)]
  ∧ bd = [(8, JN), (21, [.c (.int .i64 l1), .c (.int .i64 l2)]), (22, [.c (.int .i64 h1), .c (.int .i64 h2)])]
theorem abd {h1 h2 p1 p2 m1 m2 : Int} (hm : (m1, m2) = iZ (h1, h2) (p1, p2)) : kH (h1, h2) (p1, p2) = if b8 m1 m2 h1 h2 = true then (p1, p2) else (h1, h2) := by
 unfold kH;rw [← hm];refine tH ?_;rw [mz, Prod.mk.injEq]
theorem N8 {a b : Int × Int} : iZ a b = if a.1 < b.1 ∨ (a.1 = b.1 ∧ a.2 < b.2) then a else b := rfl
theorem aeA {a1 a2 b1 b2 c1 c2 d1 d2 p q r s t u : Int} {w : Int} {f : Int × Int → Bool}
  (ba : aC ag 27 [aK a1 a2] (bk true)) (ec : aC ag 27 [aK b1 b2] (bk true)) (gr : aC ag 27 [aK c1 c2] (bk true)) (mZ : aC ag 27 [aK d1 d2] (bk true))
  (rr : aC ag 78 [aK a1 a2, aK b1 b2] (.cr [.one (.c (.int .i64 p)), .one (.c (.int .i64 q)), jY r])) (rs : aC ag 78 [aK c1 c2, aK d1 d2] (.cr [.one (.c (.int .i64 s)), .one (.c (.int .i64 t)), jY u]))
  (Bb : aC ag 80 [aH 0] (cO 0)) (ru : aC ag 80 [aH p] (cO p)) (uB : aC ag 80 [aH q] (cO q)) (Bc : aC ag 80 [aH s] (cO s)) (Bd : aC ag 80 [aH t] (cO t))
  (rp : aC ag 79 [cO p, cO q, cO s, cO t] (cO w)) (c : Int) (A8 : aC ag 76 [cO w, cO 0] (aH c)) (aj : c = 0)
  (ar : ∀ p ∈ [(a1, a2), (b1, b2), (c1, c2), (d1, d2)], f p = (l6 p.1 p.2 a1 a2 b1 b2 && l6 p.1 p.2 c1 c2 d1 d2)) (ap : ∀ p ∈ [(a1, a2), (b1, b2), (c1, c2), (d1, d2)], bA p.1 p.2 = true) :
  aC ag 46 [aK a1 a2, aK b1 b2, aK c1 c2, aK d1 d2] (rf (DZ ([(a1, a2), (b1, b2), (c1, c2), (d1, d2)].filter f))) := by
 have hlen : [(a1, a2), (b1, b2), (c1, c2), (d1, d2)].length = 4 := rfl;refine bm (f := 46) Tryz.func46 rfl rfl rfl rfl ?_;(repeat first | refine ez ?_ | refine e9 ba ?_ | refine e9 ec ?_ | refine e9 gr ?_ | refine e9 mZ ?_ | refine e9 Bb ?_ | refine e9 ru ?_ | refine e9 uB ?_ | refine e9 Bc ?_ | refine e9 Bd ?_ | refine e9 rr ?_ | refine e9 rs ?_ | refine e9 A8 ?_ | refine e9 rp ?_);clear ba ec gr mZ rr rs Bb ru uB Bc Bd rp A8 aj;refine UX 38 2 ?_;refine Za 196 (S8 [(a1, a2), (b1, b2), (c1, c2), (d1, d2)] f a1 a2 b1 b2 c1 c2 d1 d2) [(a1, a2), (b1, b2), (c1, c2), (d1, d2)].length _ _ ⟨0, 0, dC _, rfl, rfl, rfl, rfl, rfl, rfl⟩ rfl ⟨rfl, rfl, rfl, rfl, rfl, rfl, rfl, rfl, trivial⟩ ⟨rfl, rfl, rfl, rfl, rfl, trivial⟩ rfl ?_;rintro k t aL bd ⟨i, j, hi, rfl, vn, zq, ae, rfl, rfl⟩ c0;clear c0;generalize [(a1, a2), (b1, b2), (c1, c2), (d1, d2)] = l at *
 by_cases al : i < l.length
 ·have bX : j < 4 := by omega
  have ai8 : j < l.length := by omega
  have Hg : 0 ≤ j ∧ j ≤ 300 := by omega
  obtain ⟨jc, j0, g⟩ := Qw al;have jE := QA ae g;have hm : (jc, j0) ∈ l := c7 g;have my := ar _ hm
  have vm : ((l.take i).filter f).length ≤ 300 := by
   have h1 := List.length_filter_le f (l.take i);have h2 : (l.take i).length ≤ i := by rw [dK]; exact Nat.min_le_left _ _
   omega
  have aM : l[i] = (jc, j0) := by rw [bN al] at g; exact kJ g
  have mA : (l.take (i + 1)).filter f = (l.take i).filter f ++ (if f (jc, j0) = true then [(jc, j0)] else []) := by
   rw [j3 al, aM, List.filter_append];congr 1;cases XY : f (jc, j0) <;> simp [XY]
  have rv := P1 (p1 := jc) (p2 := j0) (a1 := a1) (a2 := a2) (b1 := b1) (b2 := b2);have uD := P1 (p1 := jc) (p2 := j0) (a1 := c1) (a2 := c2) (b1 := d1) (b2 := d2);simp only at my;generalize l6 jc j0 a1 a2 b1 b2 = b3 at *;generalize l6 jc j0 c1 c2 d1 d2 = b7 at *
  have cs : (b3 = false ∧ f (jc, j0) = false) ∨ (b3 = true ∧ b7 = false ∧ f (jc, j0) = false) ∨ (b3 = true ∧ b7 = true ∧ f (jc, j0) = true) := by
   rw [my]; cases b3 <;> cases b7 <;> simp
  clear my ar ap g hm;refine tF (qK ?_);(refine eF ?_);rcases cs with ⟨rfl, my⟩ | ⟨rfl, rfl, my⟩ | ⟨rfl, rfl, my⟩
  ·rw [my, if_neg (by decide), nC] at mA;refine oK (tF (G9 (tF (qK ?_))));(repeat first | refine ez ?_ | refine e9 rv ?_);refine oK (qK ?_);(refine eF ?_);refine Gj (oK (qK ?_));(refine eF ?_);refine oK ?_;exact ⟨l.length - (i + 1), _, _, by omega, ⟨i + 1, j + 1, by omega, rfl, by rw [mA]; exact vn, by rw [mA]; exact zq, by omega, rfl, rfl⟩, rfl, ⟨rfl, rfl, rfl, rfl, rfl, rfl, rfl, rfl, trivial⟩, ⟨rfl, rfl, rfl, rfl, rfl, trivial⟩, rfl⟩
  ·rw [my, if_neg (by decide), nC] at mA;refine oK (tF (G9 (tF (qK ?_))));(repeat first | refine ez ?_ | refine e9 rv ?_ | refine e9 uD ?_);refine oK (qK ?_);(refine eF ?_);refine Gj (oK (qK ?_));(refine eF ?_);refine oK ?_;exact ⟨l.length - (i + 1), _, _, by omega, ⟨i + 1, j + 1, by omega, rfl, by rw [mA]; exact vn, by rw [mA]; exact zq, by omega, rfl, rfl⟩, rfl, ⟨rfl, rfl, rfl, rfl, rfl, rfl, rfl, rfl, trivial⟩, ⟨rfl, rfl, rfl, rfl, rfl, trivial⟩, rfl⟩
  ·rw [my, if_pos rfl] at mA;have aa : t.xs ++ [.int .i64 jc, .int .i64 j0] = sx ((l.take (i + 1)).filter f) := by rw [mA, QB, zq]; rfl
   have ax : t.n + 1 = ((l.take (i + 1)).filter f).length := by rw [mA, cJ, vn]; rfl
   refine oK (tF (G9 (tF (qK ?_))));(repeat first | refine ez ?_ | refine e9 rv ?_ | refine e9 uD ?_);refine oK (Y9 (b := true) rfl (fun _ => ?_) (fun h => by cases h));refine Y8 (k := 6) rfl ?_;(refine eF ?_);refine ⟨(by decide : 153 < 196), rfl, 1, [.int .i64 jc, .int .i64 j0], rfl, .inl Nat.one_pos, by simp; exact ⟨rfl, rfl⟩, by rw [vn]; unfold maxLen; omega, by rw [vn]; omega, fun v' bR => ?_⟩;(refine eF ?_);refine Gj (oK (qK ?_));(refine eF ?_);refine oK ?_;exact ⟨l.length - (i + 1), _, _, by omega, ⟨i + 1, j + 1, by omega, rfl, ax, aa, by omega, rfl, rfl⟩, rfl, ⟨rfl, rfl, rfl, rfl, rfl, rfl, rfl, rfl, trivial⟩, ⟨rfl, rfl, rfl, rfl, rfl, trivial⟩, rfl⟩
 ·have bX : ¬ j < 4 := by omega
  have e : i = l.length := by omega
  have aa : cy 2 t.n (t.xs.map .c) = I6 (l.filter f) := by rw [vn, zq, e, List.take_length, QC]
  refine tF (qK ?_);(refine eF ?_);refine Nl (Nl ⟨18, rfl, ?_⟩);rw [aa];have nn : ∀ p ∈ l.filter f, bA p.1 p.2 = true := fun p hp => ap p ((sB.1 hp).1);have Ym : (l.filter f).length ≤ 4 := by have := List.length_filter_le f l; omega
  generalize l.filter f = L at *;clear aa vn zq e al bX hi ae ap ar hlen;cases L with
  | nil =>
   have aD : (([] : List (Int × Int)).length : Int) = 0 := rfl;(refine eF ?_)
   ((refine bc rfl (cu rfl rfl rfl aN) ?_))
   exact R9
  | cons x cb =>
   have aD : ¬ ((x :: cb).length : Int) = 0 := by simp; omega
   obtain ⟨ct, cz⟩ := x;(refine eF ?_);refine s8 196 (S9 (ct, cz) cb) cb.length _ _ ⟨0, 1, ct, cz, ct, cz, dC _, rfl, rfl, rfl, rfl, rfl, rfl⟩ rfl ⟨rfl, rfl, rfl, rfl, rfl, trivial⟩ ⟨rfl, rfl, rfl, trivial⟩ rfl ?_;rintro k aL bd ⟨i, j, l1, l2, h1, h2, hi, rfl, qH, rZ, ae, rfl, rfl⟩ c0;clear c0
   by_cases al : i < cb.length
   ·have bX : j < (((ct, cz) :: cb).length : Int) := by simp only [iI] at *; omega
    have Hg : 0 ≤ j ∧ j ≤ 300 := by simp only [iI] at *; omega
    obtain ⟨jc, j0, g⟩ := Qw al;have jE := QA (l := (ct, cz) :: cb) (i := i + 1) (j := j) (by omega) (by simpa using g);have aM : cb[i] = (jc, j0) := by rw [bN al] at g; exact kJ g
    have t1 : (cb.take (i + 1)).foldl iZ (ct, cz) = iZ (l1, l2) (jc, j0) := by rw [j3 al, aM, List.foldl_append, ← qH]; rfl
    have t2 : (cb.take (i + 1)).foldl kH (ct, cz) = kH (h1, h2) (jc, j0) := by rw [j3 al, aM, List.foldl_append, ← rZ]; rfl
    obtain ⟨⟨b6, cD⟩, ap⟩ : ∃ r, r = iZ (l1, l2) (jc, j0) := ⟨_, rfl⟩;obtain ⟨⟨m1, m2⟩, hm⟩ : ∃ r, r = iZ (h1, h2) (jc, j0) := ⟨_, rfl⟩;have aT := DF (ap.trans N8);have bH := DF (hm.trans N8);rw [abd hm] at t2;rw [← ap] at t1;clear ap hm qH rZ g aM;cases ab : b8 m1 m2 h1 h2 with
    | true =>
     rw [ab, if_pos rfl] at t2;(repeat first | refine ez ?_ | refine e9 aT ?_ | refine e9 bH ?_);exact ⟨cb.length - (i + 1), _, _, by omega, ⟨i + 1, j + 1, b6, cD, jc, j0, by omega, rfl, t1.symm, t2.symm, by omega, rfl, rfl⟩, rfl, ⟨rfl, rfl, rfl, rfl, rfl, trivial⟩, ⟨rfl, rfl, rfl, trivial⟩, rfl⟩
    | false =>
     rw [ab, if_neg (by decide)] at t2;(repeat first | refine ez ?_ | refine e9 aT ?_ | refine e9 bH ?_);exact ⟨cb.length - (i + 1), _, _, by omega, ⟨i + 1, j + 1, b6, cD, h1, h2, by omega, rfl, t1.symm, t2.symm, by omega, rfl, rfl⟩, rfl, ⟨rfl, rfl, rfl, rfl, rfl, trivial⟩, ⟨rfl, rfl, rfl, trivial⟩, rfl⟩
   ·have bX : ¬ j < (((ct, cz) :: cb).length : Int) := by simp only [iI] at *; omega
    have e : i = cb.length := by omega
    rw [e, List.take_length] at qH rZ
    have de := P2 (x := l1) (y := l2) (by
     have := (FL cb (ct, cz)).1;rw [← qH] at this;exact nn _ this)
    simp only [DZ];rw [← qH, ← rZ];clear qH rZ e al hi ae nn;simp only;unfold pP;cases ab : b8 l1 l2 h1 h2 with
    | true =>
     rw [if_pos (mz.1 ab)];(repeat first | refine ez ?_ | refine e9 de ?_)
     ((refine bc rfl (cu rfl rfl rfl aN) ?_))
     exact ah.aQ.refl _
    | false =>
     rw [if_neg (fun h => by rw [mz.2 h] at ab; cases ab)];(refine eF ?_)
     ((refine bc rfl (cu rfl rfl rfl aN) ?_))
     exact UL _ _ _ _
theorem DC {n d a b : Int} (dp : bD 150 n) (dX : bD 150 d) (a0 : -134217728 ≤ a) (a1 : a ≤ 134217728) (fw : -134217728 ≤ b) (b1 : b ≤ 134217728) : aC ag 82 [oc n d, aH a, aH b] (bk (decide (kd n d a b))) := by
 have := adP dp dX a0 a1 fw b1 rfl rfl rfl rfl
 have e : decide (kd n d a b) = (decide ((if b < a then b else a) * d ≤ n) && decide (n ≤ (if b > a then b else a) * d)) := by
  rw [lD, cq, dc, cq, cq];rfl
 rw [e];exact this
theorem P3 {n d : Int} (dp : bD 900 n) (dX : bD 900 d) : aC ag 81 [cO n, cO d] (oc (hW n d) (hy d)) := by
 unfold hW hy
 by_cases h : d < 0
 ·rw [if_pos h, if_pos h]; exact adQ dp dX h
 ·rw [if_neg h, if_neg h]; exact adR dp dX (by omega)
theorem Nz {n : Int} : b9 n 0 = 0 ↔ n = 0 := by unfold b9; split <;> (try split) <;> omega
theorem adM {a1 a2 b1 b2 c1 c2 d1 d2 : Int} (aJ : bA a1 a2 = true) (ab : bA b1 b2 = true) (aj : bA c1 c2 = true) (hd : bA d1 d2 = true) (hw : cT a1 a2 b1 b2 c1 c2 d1 d2 ≠ 0) : aC ag 46 [aK a1 a2, aK b1 b2, aK c1 c2, aK d1 d2] (rf (kG a1 a2 b1 b2 c1 c2 d1 d2)) := by
 have ba := l9 aJ;have ec := l9 ab;have gr := l9 aj;have mZ := l9 hd;have rr := DG aJ ab rfl rfl rfl;have rs := DG aj hd rfl rfl rfl;have zF := k8.1 aJ;have vr := k8.1 ab;have lA := k8.1 aj;have zG := k8.1 hd;have vD : bD 5 (b2 - a2) := bD.i64 (by omega) (by omega);have nq : bD 5 (a1 - b1) := bD.i64 (by omega) (by omega);have ns : bD 5 (d2 - c2) := bD.i64 (by omega) (by omega);have vE : bD 5 (c1 - d1) := bD.i64 (by omega) (by omega);have m1 : bD 5 a1 := bD.i64 (by omega) (by omega);have m2 : bD 5 a2 := bD.i64 (by omega) (by omega);have m3 : bD 5 c1 := bD.i64 (by omega) (by omega);have m4 : bD 5 c2 := bD.i64 (by omega) (by omega);have Dl : bD 20 ((b2 - a2) * a1 + (a1 - b1) * a2) := ((vD.mul m1).add (nq.mul m2)).up (by omega);have Dp : bD 20 ((d2 - c2) * c1 + (c1 - d1) * c2) := ((ns.mul m3).add (vE.mul m4)).up (by omega);have sub : ∀ {k : Nat} {x y : Int}, bD k x → bD k y → bD (k + 1) (x - y) := fun h g => by have := h.add g.neg; rwa [← Int.sub_eq_add_neg] at this
 have fC : bD 20 (cT a1 a2 b1 b2 c1 c2 d1 d2) := (sub (vD.mul vE) (nq.mul ns)).up (by omega);have pU : bD 60 (jr a1 a2 b1 b2 c1 c2 d1 d2) := (sub ((Dl.mul vE).up (show 25 ≤ 30 by omega)) ((nq.mul Dp).up (show 25 ≤ 30 by omega))).up (by omega);have pV : bD 60 (js a1 a2 b1 b2 c1 c2 d1 d2) := (sub ((vD.mul Dp).up (show 25 ≤ 30 by omega)) ((Dl.mul ns).up (show 25 ≤ 30 by omega))).up (by omega);have Dg : ∀ {k : Nat} {x : Int} (d : Int), bD k x → bD k (hW x d) := fun d h => by unfold hW; split; exact h.neg; exact h
 have Dh : ∀ {k : Nat} {x : Int}, bD k x → bD k (hy x) := fun h => by unfold hy; split; exact h.neg; exact h
 refine aez ba ec gr mZ rr rs (jt (by omega) (by omega)) (jt (by omega) (by omega)) (jt (by omega) (by omega)) (jt (by omega) (by omega)) (jt (by omega) (by omega))
  (DD (vD.up (by omega)) (nq.up (by omega)) (ns.up (by omega)) (vE.up (by omega))) (b9 (cT a1 a2 b1 b2 c1 c2 d1 d2) 0) (z1 (fC.up (by omega)) (by unfold bD; exact z7 _)) (fun h => hw (Nz.1 h))
  (DD (Dl.up (by omega)) (nq.up (by omega)) (Dp.up (by omega)) (vE.up (by omega))) (DD (vD.up (by omega)) (Dl.up (by omega)) (ns.up (by omega)) (Dp.up (by omega)))
  (P3 (pU.up (by omega)) (fC.up (by omega))) (P3 (pV.up (by omega)) (fC.up (by omega)))
  (DC ((Dg _ pU).up (by omega)) ((Dh fC).up (by omega)) zF.1.1 zF.1.2 vr.1.1 vr.1.2) (DC ((Dg _ pV).up (by omega)) ((Dh fC).up (by omega)) zF.2.1 zF.2.2 vr.2.1 vr.2.2)
  (DC ((Dg _ pU).up (by omega)) ((Dh fC).up (by omega)) lA.1.1 lA.1.2 zG.1.1 zG.1.2) (DC ((Dg _ pV).up (by omega)) ((Dh fC).up (by omega)) lA.2.1 lA.2.2 zG.2.1 zG.2.2) ?_
 unfold kG pS four;refine tH ⟨fun h => ?_, fun h => ?_⟩
 ·rw [dc, dc, dc] at h;exact ⟨of_decide_eq_true h.1.1.1, of_decide_eq_true h.1.1.2, of_decide_eq_true h.1.2, of_decide_eq_true h.2⟩
 ·rw [dc, dc, dc];exact ⟨⟨⟨cw h.1, cw h.2.1⟩, cw h.2.2.1⟩, cw h.2.2.2⟩
end Go.Proofs.YtbcecodakfejaaaGreat
namespace Go.Proofs.YtbcecodakfejaaaGreat
theorem Pz (a1 a2 b1 b2 : Int) : cG a1 a2 a1 a2 b1 b2 ∧ cG b1 b2 a1 a2 b1 b2 := by
 unfold cG qL;refine ⟨⟨BK .., ?_⟩, ⟨Ft .., ?_⟩⟩ <;> (unfold fU fT; refine ⟨?_, ?_, ?_, ?_⟩ <;> split <;> omega)
theorem Py {a1 a2 b1 b2 p1 p2 : Int} (h : bW a1 a2 b1 b2 p1 p2 = 0) : (b2 - a2) * a1 + (a1 - b1) * a2 = (b2 - a2) * p1 + (a1 - b1) * p2 := by unfold bW at h; grind
theorem PA {a1 a2 b1 b2 c1 c2 d1 d2 p1 p2 : Int} (h : bW a1 a2 b1 b2 p1 p2 = 0) (k : bW c1 c2 d1 d2 p1 p2 = 0) :
  jr a1 a2 b1 b2 c1 c2 d1 d2 = p1 * cT a1 a2 b1 b2 c1 c2 d1 d2 ∧ js a1 a2 b1 b2 c1 c2 d1 d2 = p2 * cT a1 a2 b1 b2 c1 c2 d1 d2 := by
 have e := Py h;have f := Py k;unfold jr js cT;rw [e, f]
 constructor <;> grind
theorem Dm (p w : Int) : hW (p * w) w = p * hy w := by
 unfold hW hy
 split
 ·rw [Int.mul_neg]
 ·rfl
theorem BA {p d a b : Int} (aD : fU a b ≤ p) (h1 : p ≤ fT a b) (hd : 0 < d) : kd (p * d) d a b :=
 ⟨n8 aD (by omega), n8 h1 (by omega)⟩
theorem Me {a1 a2 b1 b2 c1 c2 d1 d2 p1 p2 d : Int} (h : cG p1 p2 a1 a2 b1 b2) (k : cG p1 p2 c1 c2 d1 d2) (hd : 0 < d) : four a1 a2 b1 b2 c1 c2 d1 d2 (p1 * d) (p2 * d) d :=
 ⟨BA h.2.1 h.2.2.1 hd, BA h.2.2.2.1 h.2.2.2.2 hd, BA k.2.1 k.2.2.1 hd, BA k.2.2.2.1 k.2.2.2.2 hd⟩
theorem abz {a1 a2 b1 b2 c1 c2 d1 d2 : Int} (h : cT a1 a2 b1 b2 c1 c2 d1 d2 = 0) :
  (fm a1 a2 b1 b2 c1 c2 d1 d2 = e7 ∧ ∀ p1 p2, cG p1 p2 a1 a2 b1 b2 → ¬ cG p1 p2 c1 c2 d1 d2) ∨
  ∃ f1 f2 g1 g2, fm a1 a2 b1 b2 c1 c2 d1 d2 = pP f1 f2 g1 g2 ∧ cM f1 f2 g1 g2 ∧ cG f1 f2 a1 a2 b1 b2 ∧ cG f1 f2 c1 c2 d1 d2 ∧ cG g1 g2 a1 a2 b1 b2 ∧ cG g1 g2 c1 c2 d1 d2
   ∧ f1 = cR (cV a1 a2 b1 b2) (cI a1 a2 b1 b2) (cV c1 c2 d1 d2) (cI c1 c2 d1 d2) ∧ f2 = cH (cV a1 a2 b1 b2) (cI a1 a2 b1 b2) (cV c1 c2 d1 d2) (cI c1 c2 d1 d2)
   ∧ g1 = cV (cR a1 a2 b1 b2) (cH a1 a2 b1 b2) (cR c1 c2 d1 d2) (cH c1 c2 d1 d2) ∧ g2 = cI (cR a1 a2 b1 b2) (cH a1 a2 b1 b2) (cR c1 c2 d1 d2) (cH c1 c2 d1 d2)
   ∧ ∀ p1 p2, cG p1 p2 a1 a2 b1 b2 → cG p1 p2 c1 c2 d1 d2 → cM f1 f2 p1 p2 ∧ cM p1 p2 g1 g2 := by
 have hs := qR a1 a2 b1 b2;have aB := qR c1 c2 d1 d2
 have hw : mL (cV a1 a2 b1 b2) (cI a1 a2 b1 b2) (cR a1 a2 b1 b2) (cH a1 a2 b1 b2) (cV c1 c2 d1 d2) (cI c1 c2 d1 d2) (cR c1 c2 d1 d2) (cH c1 c2 d1 d2) = 0 := by
  have h1 := AK a1 a2 b1 b2 c1 c2 d1 d2;have h2 := vW a1 a2 b1 b2 c1 c2 d1 d2;have an := vW b1 b2 a1 a2 c1 c2 d1 d2;rw [← AL];rcases hr a1 a2 b1 b2 with ⟨h1, h2, an, aE, _⟩ | ⟨h1, h2, an, aE, _⟩ <;> rcases hr c1 c2 d1 d2 with ⟨bl, bJ, e6, gH, _⟩ | ⟨bl, bJ, e6, gH, _⟩ <;> rw [h1, h2, an, aE, bl, bJ, e6, gH] <;> omega
 have od : ∀ p1 p2, cG p1 p2 (cV a1 a2 b1 b2) (cI a1 a2 b1 b2) (cR a1 a2 b1 b2) (cH a1 a2 b1 b2) ↔ cG p1 p2 a1 a2 b1 b2 := fun _ _ => tV;have tO9 : ∀ p1 p2, cG p1 p2 (cV c1 c2 d1 d2) (cI c1 c2 d1 d2) (cR c1 c2 d1 d2) (cH c1 c2 d1 d2) ↔ cG p1 p2 c1 c2 d1 d2 := fun _ _ => tV;unfold fm;rw [if_pos h];unfold pQ inl;generalize cV a1 a2 b1 b2 = s1 at *;generalize cI a1 a2 b1 b2 = s2 at *;generalize cR a1 a2 b1 b2 = bC at *;generalize cH a1 a2 b1 b2 = bE at *;generalize cV c1 c2 d1 d2 = t1 at *;generalize cI c1 c2 d1 d2 = t2 at *;generalize cR c1 c2 d1 d2 = t3 at *;generalize cH c1 c2 d1 d2 = t4 at *;have key := fun p1 p2 => @CZ s1 s2 bC bE t1 t2 t3 t4 p1 p2 hs aB hw
 by_cases q : cG (cR s1 s2 t1 t2) (cH s1 s2 t1 t2) s1 s2 bC bE ∧ cG (cR s1 s2 t1 t2) (cH s1 s2 t1 t2) t1 t2 t3 t4
 ·right;rw [if_pos q];obtain ⟨b3, b7, fq, gQ, ajh, agV⟩ := key _ _ q.1 q.2;exact ⟨_, _, _, _, rfl, agV, (od _ _).1 b3, (tO9 _ _).1 b7, (od _ _).1 fq, (tO9 _ _).1 gQ, rfl, rfl, rfl, rfl, fun p1 p2 hp al => ⟨(key p1 p2 ((od _ _).2 hp) ((tO9 _ _).2 al)).2.2.2.2.1, (key p1 p2 ((od _ _).2 hp) ((tO9 _ _).2 al)).2.2.2.2.2⟩⟩
 ·left;rw [if_neg q];exact ⟨rfl, fun p1 p2 hp al => q ⟨(key p1 p2 ((od _ _).2 hp) ((tO9 _ _).2 al)).1, (key p1 p2 ((od _ _).2 hp) ((tO9 _ _).2 al)).2.1⟩⟩
theorem acg {a1 a2 b1 b2 f1 f2 g1 g2 p1 p2 : Int} (ar : cG f1 f2 a1 a2 b1 b2) (aq : cG g1 g2 a1 a2 b1 b2) (hp : cG p1 p2 a1 a2 b1 b2) (aD : cM f1 f2 p1 p2) (h1 : cM p1 p2 g1 g2) : cG p1 p2 f1 f2 g1 g2 := by
 refine (vH (aD.trans h1)).2 ⟨?_, aD, h1⟩
 by_cases e : a1 = b1 ∧ a2 = b2
 ·obtain ⟨rfl, rfl⟩ := e;obtain ⟨rfl, rfl⟩ := zX ar;obtain ⟨rfl, rfl⟩ := zX aq;obtain ⟨rfl, rfl⟩ := zX hp;exact BK ..
 ·have a := ar.1;have b := aq.1;have c := hp.1;unfold bW at *;have d1 : (b1 - a1) * ((g1 - f1) * (p2 - f2) - (g2 - f2) * (p1 - f1)) = 0 := by grind
  have d2 : (b2 - a2) * ((g1 - f1) * (p2 - f2) - (g2 - f2) * (p1 - f1)) = 0 := by grind
  rcases sD.1 d1 with bq | bq
  ·rcases sD.1 d2 with f | f
   ·omega
   ·exact f
  ·exact bq
theorem OL (a1 a2 b1 b2 c1 c2 d1 d2 : Int) :
  (fm a1 a2 b1 b2 c1 c2 d1 d2 = e7 ∧ ∀ p1 p2, cG p1 p2 a1 a2 b1 b2 → ¬ cG p1 p2 c1 c2 d1 d2) ∨
  (∃ x y d, fm a1 a2 b1 b2 c1 c2 d1 d2 = gl x d y d ∧ 0 < d ∧ (d = 1 ∨ d = hy (cT a1 a2 b1 b2 c1 c2 d1 d2)) ∧ four a1 a2 b1 b2 c1 c2 d1 d2 x y d ∧ ∀ p1 p2, cG p1 p2 a1 a2 b1 b2 → cG p1 p2 c1 c2 d1 d2 → x = p1 * d ∧ y = p2 * d) ∨
  (∃ f1 f2 g1 g2, fm a1 a2 b1 b2 c1 c2 d1 d2 = kc f1 f2 g1 g2 ∧ ¬ (f1 = g1 ∧ f2 = g2) ∧ cM f1 f2 g1 g2 ∧ cG f1 f2 a1 a2 b1 b2 ∧ cG f1 f2 c1 c2 d1 d2 ∧ cG g1 g2 a1 a2 b1 b2 ∧ cG g1 g2 c1 c2 d1 d2
   ∧ f1 = cR (cV a1 a2 b1 b2) (cI a1 a2 b1 b2) (cV c1 c2 d1 d2) (cI c1 c2 d1 d2) ∧ f2 = cH (cV a1 a2 b1 b2) (cI a1 a2 b1 b2) (cV c1 c2 d1 d2) (cI c1 c2 d1 d2)
   ∧ g1 = cV (cR a1 a2 b1 b2) (cH a1 a2 b1 b2) (cR c1 c2 d1 d2) (cH c1 c2 d1 d2) ∧ g2 = cI (cR a1 a2 b1 b2) (cH a1 a2 b1 b2) (cR c1 c2 d1 d2) (cH c1 c2 d1 d2)
   ∧ ∀ p1 p2, cG p1 p2 a1 a2 b1 b2 → cG p1 p2 c1 c2 d1 d2 → cG p1 p2 f1 f2 g1 g2) := by
 by_cases h : cT a1 a2 b1 b2 c1 c2 d1 d2 = 0
 ·rcases abz h with ⟨e, ax⟩ | ⟨f1, f2, g1, g2, e, ak, b3, b7, fq, gQ, v1, v2, v3, v4, hp⟩
  ·exact .inl ⟨e, ax⟩
  ·right;rw [e];unfold pP
   by_cases q : f1 = g1 ∧ f2 = g2
   ·left;rw [if_pos q];refine ⟨f1, f2, 1, rfl, by omega, .inl rfl, ?_, fun p1 p2 aJ ab => ?_⟩
    ·have := Me b3 b7 (d := 1) (by omega);rwa [Int.mul_one, Int.mul_one] at this
    ·obtain ⟨bl, bJ⟩ := hp p1 p2 aJ ab;obtain ⟨rfl, rfl⟩ := q;have := cM.wy bl bJ;omega
   ·right;rw [if_neg q];exact ⟨f1, f2, g1, g2, rfl, q, ak, b3, b7, fq, gQ, v1, v2, v3, v4, fun p1 p2 aJ ab => acg b3 fq aJ (hp p1 p2 aJ ab).1 (hp p1 p2 aJ ab).2⟩
 ·have hd := O9 h;unfold fm;rw [if_neg h];unfold kG pS
  by_cases q : four a1 a2 b1 b2 c1 c2 d1 d2 (hW (jr a1 a2 b1 b2 c1 c2 d1 d2) (cT a1 a2 b1 b2 c1 c2 d1 d2)) (hW (js a1 a2 b1 b2 c1 c2 d1 d2) (cT a1 a2 b1 b2 c1 c2 d1 d2)) (hy (cT a1 a2 b1 b2 c1 c2 d1 d2))
  ·right; left;rw [if_pos q];refine ⟨_, _, _, rfl, hd, .inr rfl, q, fun p1 p2 aJ ab => ?_⟩;obtain ⟨aF, aM⟩ := PA aJ.1 ab.1;rw [aF, aM, Dm, Dm];exact ⟨rfl, rfl⟩
  ·left;rw [if_neg q];refine ⟨rfl, fun p1 p2 aJ ab => q ?_⟩;obtain ⟨aF, aM⟩ := PA aJ.1 ab.1;rw [aF, aM, Dm, Dm];exact Me aJ ab hd
end Go.Proofs.YtbcecodakfejaaaGreat
namespace Go.Proofs.YtbcecodakfejaaaGreat
open Go.RowKit
theorem adO {a1 a2 b1 b2 c1 c2 d1 d2 : Int} (aJ : bA a1 a2 = true) (ab : bA b1 b2 = true) (aj : bA c1 c2 = true) (hd : bA d1 d2 = true) (hw : cT a1 a2 b1 b2 c1 c2 d1 d2 = 0) : aC ag 46 [aK a1 a2, aK b1 b2, aK c1 c2, aK d1 d2] (rf (fm a1 a2 b1 b2 c1 c2 d1 d2)) := by
 have zF := k8.1 aJ;have vr := k8.1 ab;have lA := k8.1 aj;have zG := k8.1 hd;have vD : bD 5 (b2 - a2) := bD.i64 (by omega) (by omega);have nq : bD 5 (a1 - b1) := bD.i64 (by omega) (by omega);have ns : bD 5 (d2 - c2) := bD.i64 (by omega) (by omega);have vE : bD 5 (c1 - d1) := bD.i64 (by omega) (by omega);have z : bD 1000 (0 : Int) := by unfold bD; exact z7 _
 have rp := DD (vD.up (by omega)) (nq.up (by omega)) (ns.up (by omega)) (vE.up (by omega));have cX : (b2 - a2) * (c1 - d1) - (a1 - b1) * (d2 - c2) = 0 := hw;rw [cX] at rp;rw [← afe hw]
 refine aeA (l9 aJ) (l9 ab) (l9 aj) (l9 hd) (DG aJ ab rfl rfl rfl) (DG aj hd rfl rfl rfl) (jt (by omega) (by omega)) (jt (by omega) (by omega)) (jt (by omega) (by omega)) (jt (by omega) (by omega)) (jt (by omega) (by omega))
  rp (b9 0 0) (z1 z z) (Nz.2 rfl) ?_ ?_
 ·intro p hp
  have ap : bA p.1 p.2 = true := by
   simp only [fD, sC, or_false] at hp;rcases hp with rfl | rfl | rfl | rfl <;> assumption
  rw [HY (iJ aJ) (iJ ab) (iJ ap), HY (iJ aj) (iJ hd) (iJ ap)]
 ·intro p hp;simp only [fD, sC, or_false] at hp;rcases hp with rfl | rfl | rfl | rfl <;> assumption
theorem adL {a1 a2 b1 b2 c1 c2 d1 d2 : Int} : aC ag 46 [aK a1 a2, aK b1 b2, aK c1 c2, aK d1 d2] (rf (kp a1 a2 b1 b2 c1 c2 d1 d2)) := by
 unfold kp
 by_cases h : (bA a1 a2 && bA b1 b2 && bA c1 c2 && bA d1 d2) = true
 ·rw [if_pos h];simp only [dc] at h
  by_cases hw : cT a1 a2 b1 b2 c1 c2 d1 d2 = 0
  ·exact adO h.1.1.1 h.1.1.2 h.1.2 h.2 hw
  ·have := adM h.1.1.1 h.1.1.2 h.1.2 h.2 hw;unfold fm;rw [if_neg hw];exact this
 ·rw [if_neg h];exact adN (by simpa using h)
theorem aha {a1 a2 b1 b2 c1 c2 d1 d2 : Int} (aJ : bA a1 a2 = true) (ab : bA b1 b2 = true) (aj : bA c1 c2 = true) (hd : bA d1 d2 = true) : -144115188075855872 ≤ cT a1 a2 b1 b2 c1 c2 d1 d2 ∧ cT a1 a2 b1 b2 c1 c2 d1 d2 ≤ 144115188075855872 := by
 rw [k8] at aJ ab aj hd;have m1 := Da (x := b2 - a2) (y := c1 - d1) (by omega) (by omega) (by omega) (by omega);have m2 := Da (x := a1 - b1) (y := d2 - c2) (by omega) (by omega) (by omega) (by omega);unfold cT;omega
theorem KK {n d a b : Int} (h : kd n d a b) (a0 : -134217728 ≤ a) (a1 : a ≤ 134217728) (fw : -134217728 ≤ b) (b1 : b ≤ 134217728) (d0 : 0 ≤ d) (d1 : d ≤ 144115188075855872) : -19342813113834066795298816 ≤ n ∧ n ≤ 19342813113834066795298816 := by
 obtain ⟨aD, h1⟩ := h;have i0 : -134217728 ≤ fU a b ∧ fU a b ≤ 134217728 := by unfold fU; split <;> omega
 have i1 : -134217728 ≤ fT a b ∧ fT a b ≤ 134217728 := by unfold fT; split <;> omega
 have m0 := Bw i0.1 i0.2 (show -144115188075855872 ≤ d by omega) d1;have m1 := Bw i1.1 i1.2 (show -144115188075855872 ≤ d by omega) d1;omega
def A2 (M : eI) : Prop := (M = e7) ∨ (∃ x y d, M = gl x d y d ∧ 0 < d ∧ d ≤ 144115188075855872 ∧ (-19342813113834066795298816 ≤ x ∧ x ≤ 19342813113834066795298816) ∧ (-19342813113834066795298816 ≤ y ∧ y ≤ 19342813113834066795298816)) ∨ (∃ f1 f2 g1 g2, M = kc f1 f2 g1 g2)
theorem Ml {a1 a2 b1 b2 c1 c2 d1 d2 x y d : Int} (aJ : bA a1 a2 = true) (ab : bA b1 b2 = true) (aj : bA c1 c2 = true) (hd : bA d1 d2 = true) (aD : 0 < d) (h1 : d = 1 ∨ d = hy (cT a1 a2 b1 b2 c1 c2 d1 d2)) (ar : four a1 a2 b1 b2 c1 c2 d1 d2 x y d) :
  d ≤ 144115188075855872 ∧ (-19342813113834066795298816 ≤ x ∧ x ≤ 19342813113834066795298816) ∧ (-19342813113834066795298816 ≤ y ∧ y ≤ 19342813113834066795298816) := by
 have c4 := aha aJ ab aj hd;rw [k8] at aJ ab
 have rW : d ≤ 144115188075855872 := by
  rcases h1 with rfl | rfl
  ·omega
  ·unfold hy; split <;> omega
 exact ⟨rW, KK ar.1 aJ.1.1 aJ.1.2 ab.1.1 ab.1.2 (by omega) rW, KK ar.2.1 aJ.2.1 aJ.2.2 ab.2.1 ab.2.2 (by omega) rW⟩
theorem aaT (a1 a2 b1 b2 c1 c2 d1 d2 : Int) : A2 (kp a1 a2 b1 b2 c1 c2 d1 d2) := by
 unfold kp
 by_cases h : (bA a1 a2 && bA b1 b2 && bA c1 c2 && bA d1 d2) = true
 ·rw [if_pos h];simp only [dc] at h;rcases OL a1 a2 b1 b2 c1 c2 d1 d2 with ⟨e, _⟩ | ⟨x, y, d, e, aD, h1, ar, _⟩ | ⟨f1, f2, g1, g2, e, _⟩
  ·exact .inl e
  ·exact .inr (.inl ⟨x, y, d, e, aD, Ml h.1.1.1 h.1.1.2 h.1.2 h.2 aD h1 ar⟩)
  ·exact .inr (.inr ⟨f1, f2, g1, g2, e⟩)
 ·rw [if_neg h]; exact .inl rfl
theorem L5 {x : Int} (h : -19342813113834066795298816 ≤ x ∧ x ≤ 19342813113834066795298816) : fits x = true := by unfold fits; rw [cq]; omega
theorem DE {x y d p1 p2 : Int} {r : Bool} (hp : bA p1 p2 = true) (pU : bD 150 x) (pV : bD 150 y) (nd : bD 150 d) (ap : decide (x = p1 * d ∧ y = p2 * d) = r) : aC ag 47 [sM 1 x d y d 0 0 0 0, aK p1 p2] (bk r) := by
 have ab := k8.1 hp;have hQ := P2 hp;have dp : bD 5 p1 := bD.i64 (by omega) (by omega);have dX : bD 5 p2 := bD.i64 (by omega) (by omega);have ja : bD 5 (1 : Int) := bD.i64 (by omega) (by omega);have aT := DB (n := x) (d := d) (m := p1) (e := 1) (pU.up (by omega)) (nd.up (by omega)) (dp.up (by omega)) (ja.up (by omega));have bH := DB (n := y) (d := d) (m := p2) (e := 1) (pV.up (by omega)) (nd.up (by omega)) (dX.up (by omega)) (ja.up (by omega));rw [Int.mul_one] at aT bH;have q : ∀ u v : Int, b9 u v = 0 ↔ u = v := fun u v => by unfold b9; split <;> (try split) <;> omega
 have cs : (¬ b9 x (p1 * d) = 0 ∧ r = false) ∨ (b9 x (p1 * d) = 0 ∧ b9 y (p2 * d) = 0 ∧ r = true) ∨ (b9 x (p1 * d) = 0 ∧ ¬ b9 y (p2 * d) = 0 ∧ r = false) := by
  rw [← ap, q, q]
  by_cases h1 : x = p1 * d <;> by_cases h2 : y = p2 * d <;> simp [h1, h2]
 clear ap q dp dX ja pU pV nd hp ab;generalize b9 x (p1 * d) = c1 at *;generalize b9 y (p2 * d) = c2 at *;rcases cs with ⟨q1, rfl⟩ | ⟨q1, q2, rfl⟩ | ⟨q1, q2, rfl⟩
 all_goals
  refine bm (f := 47) Tryz.func47 rfl rfl rfl rfl ?_;(repeat first | refine ez ?_ | refine jB ?_ | (with_reducible apply cW (c := true)); rfl; rfl; (exact cw (by omega)) | (with_reducible apply cW (c := false)); rfl; rfl; (exact c3 (by omega)))
  ((refine bc rfl (bf rfl aN) ?_))
  first | exact ah.aQ.refl _ | exact ah.aQ.of_eq (by rw [cw q2]; rfl) | exact ah.aQ.of_eq (by rw [c3 q2]; rfl)
theorem QP {a1 a2 b1 b2 c1 c2 d1 d2 : Int} (aT : aC ag 46 [aK a1 a2, aK b1 b2, aK c1 c2, aK d1 d2] (rf e7)) : aC ag 24 [aK a1 a2, aK b1 b2, aK c1 c2, aK d1 d2] (bk true) := by
 simp only [e7] at aT;refine bm (f := 24) Tryz.func24 rfl rfl rfl rfl ?_;(refine bY ?_)
 ((refine bc rfl (bf rfl aN) ?_))
 exact ah.aQ.refl _
theorem aey {a1 a2 b1 b2 c1 c2 d1 d2 x y d : Int} {b3 b7 fq gQ r : Bool} (aT : aC ag 46 [aK a1 a2, aK b1 b2, aK c1 c2, aK d1 d2] (rf (gl x d y d)))
  (mY : aC ag 47 [sM 1 x d y d 0 0 0 0, aK a1 a2] (bk b3)) (oo : aC ag 47 [sM 1 x d y d 0 0 0 0, aK b1 b2] (bk b7)) (oq : aC ag 47 [sM 1 x d y d 0 0 0 0, aK c1 c2] (bk fq)) (ahm : aC ag 47 [sM 1 x d y d 0 0 0 0, aK d1 d2] (bk gQ))
  (ap : ((b3 || b7) && (fq || gQ)) = r) : aC ag 24 [aK a1 a2, aK b1 b2, aK c1 c2, aK d1 d2] (bk r) := by
 simp only [gl] at aT
 have cs : (b3 = true ∧ fq = true ∧ r = true) ∨ (b3 = true ∧ fq = false ∧ r = gQ) ∨ (b3 = false ∧ b7 = true ∧ fq = true ∧ r = true) ∨ (b3 = false ∧ b7 = true ∧ fq = false ∧ r = gQ) ∨ (b3 = false ∧ b7 = false ∧ r = false) := by
  rw [← ap]; cases b3 <;> cases b7 <;> cases fq <;> simp
 clear ap;rcases cs with ⟨rfl, rfl, rfl⟩ | ⟨rfl, rfl, rfl⟩ | ⟨rfl, rfl, rfl, rfl⟩ | ⟨rfl, rfl, rfl, rfl⟩ | ⟨rfl, rfl, rfl⟩
 all_goals
  refine bm (f := 24) Tryz.func24 rfl rfl rfl rfl ?_;(refine bY ?_)
  ((refine bc rfl (bf rfl aN) ?_))
  exact ah.aQ.refl _
theorem aex {a1 a2 b1 b2 c1 c2 d1 d2 f1 f2 g1 g2 l1 l2 m1 m2 : Int} {r : Bool} (aT : aC ag 46 [aK a1 a2, aK b1 b2, aK c1 c2, aK d1 d2] (rf (kc f1 f2 g1 g2)))
  (EJ : aC ag 48 [aK a1 a2, aK b1 b2] (aK l1 l2)) (EK : aC ag 48 [aK c1 c2, aK d1 d2] (aK m1 m2))
  (ap : (b8 l1 l2 m1 m2 && b8 f1 f2 l1 l2 && (b8 g1 g2 a1 a2 || b8 g1 g2 b1 b2) && (b8 g1 g2 c1 c2 || b8 g1 g2 d1 d2)) = r) : aC ag 24 [aK a1 a2, aK b1 b2, aK c1 c2, aK d1 d2] (bk r) := by
 simp only [kc] at aT
 have cs : (b8 l1 l2 m1 m2 = false ∧ r = false) ∨ (b8 l1 l2 m1 m2 = true ∧ b8 f1 f2 l1 l2 = false ∧ r = false) ∨ (b8 l1 l2 m1 m2 = true ∧ b8 f1 f2 l1 l2 = true ∧ b8 g1 g2 a1 a2 = false ∧ b8 g1 g2 b1 b2 = false ∧ r = false)
   ∨ (b8 l1 l2 m1 m2 = true ∧ b8 f1 f2 l1 l2 = true ∧ b8 g1 g2 a1 a2 = true ∧ b8 g1 g2 c1 c2 = true ∧ r = true) ∨ (b8 l1 l2 m1 m2 = true ∧ b8 f1 f2 l1 l2 = true ∧ b8 g1 g2 a1 a2 = true ∧ b8 g1 g2 c1 c2 = false ∧ r = b8 g1 g2 d1 d2)
   ∨ (b8 l1 l2 m1 m2 = true ∧ b8 f1 f2 l1 l2 = true ∧ b8 g1 g2 a1 a2 = false ∧ b8 g1 g2 b1 b2 = true ∧ b8 g1 g2 c1 c2 = true ∧ r = true) ∨ (b8 l1 l2 m1 m2 = true ∧ b8 f1 f2 l1 l2 = true ∧ b8 g1 g2 a1 a2 = false ∧ b8 g1 g2 b1 b2 = true ∧ b8 g1 g2 c1 c2 = false ∧ r = b8 g1 g2 d1 d2) := by
  rw [← ap]; cases b8 l1 l2 m1 m2 <;> cases b8 f1 f2 l1 l2 <;> cases b8 g1 g2 a1 a2 <;> cases b8 g1 g2 b1 b2 <;> cases b8 g1 g2 c1 c2 <;> simp
 clear ap;rcases cs with ⟨h1, rfl⟩ | ⟨h1, h2, rfl⟩ | ⟨h1, h2, an, aE, rfl⟩ | ⟨h1, h2, an, aE, rfl⟩ | ⟨h1, h2, an, aE, rfl⟩ | ⟨h1, h2, an, aE, cY, rfl⟩ | ⟨h1, h2, an, aE, cY, rfl⟩
 all_goals
  refine bm (f := 24) Tryz.func24 rfl rfl rfl rfl ?_;(repeat first | refine ez ?_ | refine jB ?_ | (with_reducible apply cW (c := true)); rfl; rfl; (assumption) | (with_reducible apply cW (c := false)); rfl; rfl; (assumption))
  ((refine bc rfl (bf rfl aN) ?_))
  first | exact ah.aQ.refl _ | exact ah.aQ.of_eq (by rw [aE]; rfl) | exact ah.aQ.of_eq (by rw [cY]; rfl)
theorem adK {a1 a2 b1 b2 c1 c2 d1 d2 : Int} : aC ag 24 [aK a1 a2, aK b1 b2, aK c1 c2, aK d1 d2] (bk (rO (kp a1 a2 b1 b2 c1 c2 d1 d2) a1 a2 b1 b2 c1 c2 d1 d2)) := by
 have aT := adL (a1 := a1) (a2 := a2) (b1 := b1) (b2 := b2) (c1 := c1) (c2 := c2) (d1 := d1) (d2 := d2)
 by_cases h : (bA a1 a2 && bA b1 b2 && bA c1 c2 && bA d1 d2) = true
 ·have em : kp a1 a2 b1 b2 c1 c2 d1 d2 = fm a1 a2 b1 b2 c1 c2 d1 d2 := by unfold kp; rw [if_pos h]
  simp only [dc] at h;obtain ⟨⟨⟨aJ, ab⟩, aj⟩, hd⟩ := h;rw [em] at aT ⊢;rcases OL a1 a2 b1 b2 c1 c2 d1 d2 with ⟨e, _⟩ | ⟨x, y, d, e, aD, h1, ar, hp⟩ | ⟨f1, f2, g1, g2, e, bU, ak, b3, b7, fq, gQ, v1, v2, v3, v4, _⟩ <;> rw [e] at aT ⊢
  ·exact QP aT
  ·obtain ⟨bl, bJ, e6⟩ := Ml aJ ab aj hd aD h1 ar;have pU : bD 150 x := (bD.HW (L5 bJ)).up (by omega);have pV : bD 150 y := (bD.HW (L5 e6)).up (by omega);have nd : bD 150 d := (bD.HW (by unfold fits; rw [cq]; omega)).up (show 10 ≤ 150 by omega);refine aey aT (DE aJ pU pV nd rfl) (DE ab pU pV nd rfl) (DE aj pU pV nd rfl) (DE hd pU pV nd rfl) ?_;unfold rO;simp only [gl, if_true];rw [lD];simp only [dc, pX, cq, mz]
   have inj : ∀ {p q r s : Int}, (x = p * d ∧ y = q * d) → (x = r * d ∧ y = s * d) → p = r ∧ q = s := fun h k =>
    ⟨Int.eq_of_mul_eq_mul_right (by omega) (h.1.symm.trans k.1), Int.eq_of_mul_eq_mul_right (by omega) (h.2.symm.trans k.2)⟩
   have D9 := Pz a1 a2 b1 b2;have pa := Pz c1 c2 d1 d2
   constructor
   ·rintro ⟨p | p, q | q⟩
    ·exact .inl (.inl (.inl (inj p q)))
    ·exact .inl (.inl (.inr (inj p q)))
    ·exact .inl (.inr (inj p q))
    ·exact .inr (inj p q)
   ·rintro (((⟨rfl, rfl⟩ | ⟨rfl, rfl⟩) | ⟨rfl, rfl⟩) | ⟨rfl, rfl⟩)
    ·have := hp _ _ D9.1 pa.1; exact ⟨.inl this, .inl this⟩
    ·have := hp _ _ D9.1 pa.2; exact ⟨.inl this, .inr this⟩
    ·have := hp _ _ D9.2 pa.1; exact ⟨.inr this, .inl this⟩
    ·have := hp _ _ D9.2 pa.2; exact ⟨.inr this, .inr this⟩
  ·have le : ∀ p q r s : Int, (cV p q r s, cI p q r s) = if p < r ∨ (p = r ∧ q < s) then (p, q) else (r, s) := by
    intro p q r s
    by_cases h : cM p q r s
    ·obtain ⟨h1, h2, _, _⟩ := zP h;rw [h1, h2];unfold cM at h
     by_cases k : p < r ∨ (p = r ∧ q < s)
     ·rw [if_pos k]
     ·rw [if_neg k, Prod.mk.injEq]; omega
    ·have aF : cV p q r s = r := by unfold cV; rw [if_neg h]
     have aM : cI p q r s = s := by unfold cI; rw [if_neg h]
     rw [aF, aM];unfold cM at h;rw [if_neg (by omega)]
   refine aex aT (DF (le a1 a2 b1 b2)) (DF (le c1 c2 d1 d2)) ?_;unfold rO pz;simp only [kc];rw [if_neg (by decide), if_pos trivial, lD];simp only [dc, pX, mz];rcases hr a1 a2 b1 b2 with ⟨b6, cD, fp, kx, xH⟩ | ⟨b6, cD, fp, kx, xH⟩ <;> rcases hr c1 c2 d1 d2 with ⟨s1, s2, bC, bE, IG⟩ | ⟨s1, s2, bC, bE, IG⟩ <;> rw [b6, cD, s1, s2] at v1 v2 <;> rw [fp, kx, bC, bE] at v3 v4 <;> rw [b6, cD, fp, kx, s1, s2, bC, bE]
   all_goals
    constructor
    ·rintro ⟨⟨⟨p, q⟩, r⟩, s⟩;refine ⟨p, ?_⟩;have dp : ¬ (g1 = f1 ∧ g2 = f2) := fun k => bU ⟨k.1.symm, k.2.symm⟩;omega
    ·rintro ⟨⟨p1, p2⟩, q1, q2⟩;rw [p1, p2] at v1 v2;rw [q1, q2] at v3 v4;unfold cR at v1;unfold cH at v2;unfold cV at v3;unfold cI at v4;simp only [ite_self] at v1 v2 v3 v4;omega
 ·have em : kp a1 a2 b1 b2 c1 c2 d1 d2 = e7 := by unfold kp; rw [if_neg h]
  rw [em] at aT ⊢;exact QP aT
section
variable {P : Program} {R : aI} {s : aA} {ops : Array Oper} {dr : Option (List Nat)} {ty : Nat} {pos : String} {after : Array Edge} {guard : Option (Nat × Bool)} {K : aI → aA → Prop} {rest : List Oper} {c : Code} {Q : Exit → aI → aA → Prop}
theorem D7 (ay : aI) (aao : bB ay R) (h : fs P c Q ay s) : fs P c Q R s := fun ok a8 bp a w ⟨A, ad, aw⟩ => h ok a8 bp a w ⟨A, ad, aw.le aao⟩
theorem RV {f : FuncId} {r : bG} {i j : Nat} {post : ah → bG → Prop} (hp : pe P f [cy r.sz r.n r.aS] post) (bI : 0 < r.sz) (cZ : ∀ y ∈ r.aS, y.aZ = true) (hF : ∀ v q, post v q → v = aR q.v ∧ uu q.aS) :
  dk P f [aR r.v] ca (br i r) fun v aG ay => ∃ q, aG = ca ∧ ay = bV (br j q) (br i r) ∧ 0 < q.sz ∧ post v q := by
 have h := XD (R0 := br i r) (args := [aR r.v]) (hp j) rfl (fun U ad W vs cj cL => ⟨cL.1, fun n x v aa hv => ?_⟩) (fun v aG ba al => ?_)
 ·refine ⟨fun U ad W vs cj cp cL => (h.call U ad W vs cj cp cL).mono ?_⟩;rintro e bh ⟨v, b6, aG, ay, aY, cF, di, ⟨ba, ⟨q, _, rfl, aP, al⟩, rfl, rfl⟩, me⟩;exact ⟨v, b6, ca, _, aY, cF, di, ⟨q, rfl, rfl, aP, al⟩, me⟩
 ·match n with
  | 0 =>
   cases aa;have oL := (cL.2 0 _ v rfl hv).1;subst oL;exact (cj.rows i r (by unfold br; exact cx _ _ _)).1.RK bI r.aS (fun xs ak => ak.map (fun b ab _ => ⟨.inl ab, rfl⟩) fun _ _ _ _ => rfl) cZ fun b ab => .inr (.inr ⟨i, r, by unfold br; exact cx _ _ _, ab⟩)
  | n + 1 => simp at aa
 ·obtain ⟨q, rfl, rfl, aP, al⟩ := al;obtain ⟨rfl, ar⟩ := hF v q al;refine ⟨rfl, A1.one, rfl, fun k bX af => ?_⟩;obtain ⟨rfl, rfl⟩ := fK af;exact ⟨aP, ar⟩
theorem Nj (i j : Nat) (gG : i ≠ j) {d : Nat} {f : FuncId} {g : Operand} {aL : Array TypeId} {x : Operand} {r : bG} {post : ah → bG → Prop} [E : Enters P f] (hw : want ops ⟨some d, .call ⟨.value g, #[x], aL⟩, ty, pos, after, guard⟩ s = some true) (hm : dW dr ⟨some d, .call ⟨.value g, #[x], aL⟩, ty, pos, after, guard⟩ = true)
  (aq : s.look g = some (aR (.func (.func f) #[] #[]))) (aJ : s.look x = some (aR r.v)) (hp : pe P f [cy r.sz r.n r.aS] post) (hi : R i = some r) (bI : 0 < r.sz) (cZ : ∀ y ∈ r.aS, y.aZ = true) (ae : R j = none) (hd : Nat.blt d s.n = true) (hF : ∀ v q, post v q → v = aR q.v ∧ uu q.aS)
  (h : ∀ q, post (aR q.v) q → cQ P ops dr K rest R (s.put (some d) (cy q.sz q.n q.aS))) : cQ P ops dr K (⟨some d, .call ⟨.value g, #[x], aL⟩, ty, pos, after, guard⟩ :: rest) R s := by
 refine ⟨true, hw, kU hd, .inr (.inr (.inr (.inr (.inr ⟨rfl, hm, f, [aR r.v], ca, br i r, _, ⟨⟨_, g, rfl, rfl, .inl ⟨[], aq, by simp [aJ], rfl⟩⟩, E.h⟩, RV (j := j) hp bI cZ hF, fun x aa j ae => ?_, fun k' au aO => (by cases aO), fun fl aX aO => ?_, fun k' au x j aO => (by cases aO), ?_⟩))))⟩
 ·simp at aa; subst aa; exact absurd ae (iE _ j)
 ·obtain ⟨rfl, rfl⟩ := fK aO; exact hi
 rintro v aG ay ⟨q, rfl, rfl, ze, al⟩ _ _ _;refine ⟨fun k' c aO => (by cases aO), ?_⟩;obtain ⟨rfl, _⟩ := hF v q al;have lm : bV (bV (br j q) (br i r)) R j = some q := hL (hL (by unfold br; exact cx _ _ _));refine ⟨j, d, q, rfl, lm, ze, cx _ _ _, (show d < s.n by simpa [Nat.blt_eq] using hd), ?_⟩
 have aF : (fun x => if x = j then none else bV (bV (br j q) (br i r)) R x) = R := by
  funext x
  by_cases e : x = j
  ·rw [if_pos e, e, ae]
  ·rw [if_neg e]
   by_cases bq : x = i
   ·subst bq;rw [hi];exact hL (by rw [hM (by unfold br; rw [cl _ _ e]; rfl)]; unfold br; exact cx _ _ _)
   ·exact hM (by rw [hM (by unfold br; rw [cl _ _ e]; rfl)]; unfold br; rw [cl _ _ bq]; rfl)
 rw [aF, tW, Ab];exact h q al
end
section
variable {P : Program} {R : aI} {s : aA} {ops : Array Oper} {dr : Option (List Nat)} {ty : Nat} {pos : String} {after : Array Edge} {guard : Option (Nat × Bool)} {K : aI → aA → Prop} {rest : List Oper} {c : Code} {Q : Exit → aI → aA → Prop}
theorem gh.one {U : Nat → Prop} {ad : Nat → Nat} {W : World} {y : AC} {v : Value} (h : gh U ad W y v) (aj : y.aZ = true) : v.oneCell' = true := by
 cases y with
 | c u => rw [h.1]; exact h.2
 | own k o => cases aj
 | p S => exact S.cell _ _ h.1
theorem bL.exact {U cF : Nat → Prop} {ad aY : Nat → Nat} {W bh : World} {aS : List AC} {xs : List Value} (h : bL U ad W aS xs) (aj : ∀ y ∈ aS, y.aZ = true) : bL cF aY bh (xs.map AC.c) xs := by
 refine ⟨by rw [mP], fun i x v aa hv => ?_⟩;rw [eg, hv] at aa;cases aa;have hi : i < aS.length := by rw [h.1]; exact (bM.1 hv).1
 have ai := bN hi;exact ⟨rfl, (h.2 i _ v ai hv).one (aj _ (c7 ai))⟩
theorem bL.Wv {U : Nat → Prop} {ad : Nat → Nat} {W : World} {xs xY : List Value} (h : bL U ad W (xs.map AC.c) xY) : xY = xs := by
 refine List.ext_getElem? fun i => ?_;cases aa : xY[i]? with
 | none =>
  have : xs.length ≤ i := by have := h.1; rw [mP] at this; rw [this]; exact List.getElem?_eq_none_iff.1 aa
  exact (List.getElem?_eq_none_iff.2 this).symm
 | some v =>
  have hi : i < (xs.map AC.c).length := by rw [h.1]; exact (bM.1 aa).1
  have ai := bN hi;have := (h.2 i _ v ai aa);rw [List.getElem_map] at this;rw [this.1, bN (by rwa [mP] at hi)]
theorem Du {e sz n : Nat} {v : Value} {aS zs : List AC} {g : Nat} (hs : 0 < sz) (h : (⟨e, sz, v, n, aS⟩ : bG).own g) : (⟨e, sz, v, n, zs⟩ : bG).own g := by
 have := bG.oW h hs;exact .inl this
theorem ag5 {f : FuncId} {r : bG} {i j : Nat} (gG : i ≠ j) (hp : ∀ aS : List AC, aS.length = r.aS.length → aS.all AC.aZ = true → pe P f [cy r.sz r.n aS] fun v q => ∃ v', v = aR v' ∧ q = ⟨r.e, r.sz, v', r.n, aS⟩) (bI : 0 < r.sz) (cZ : ∀ y ∈ r.aS, y.aZ = true) :
  dk P f [aR r.v] ca (br i r) fun v aG ay => ∃ v', v = aR v' ∧ aG = ca ∧ ay = bV (br j ⟨r.e, r.sz, v', r.n, r.aS⟩) (br i r) := by
 refine ⟨fun U ad W vs cj cp cL => ?_⟩;have r5 : ∀ q, br i q i = some q := fun q => by unfold br; exact cx _ _ _
 obtain ⟨iV, nY, xd⟩ := cj.rows i r (r5 r);obtain ⟨xs, az, ak⟩ := iV.row bI;have hex : ∀ (U : Nat → Prop) (ad : Nat → Nat) (W : World), bL U ad W (xs.map AC.c) xs := fun U ad W => ak.exact cZ;have zt : ∀ y ∈ xs.map AC.c, AC.aZ y = true := fun y ai => by obtain ⟨v, _, rfl⟩ := iv.1 ai; rfl
 have Cy : ∀ g, (⟨r.e, r.sz, r.v, r.n, xs.map AC.c⟩ : bG).own g → r.own g := fun g h => by
  have := bG.oW h bI;exact .inl this
 have pK : ∀ g, r.own g → (⟨r.e, r.sz, r.v, r.n, xs.map AC.c⟩ : bG).own g := fun g h => by
  have := bG.oW h bI;exact .inl this
 have ih : e3 U ad W ca (br i ⟨r.e, r.sz, r.v, r.n, xs.map AC.c⟩) := by
  refine ⟨fun k cs af => (by cases af), fun k cs x j af => (by cases af), fun k k' cs au af => (by cases af), fun k q af => ?_, fun a b q bX aJ ab jm => ?_⟩
  ·obtain ⟨rfl, rfl⟩ := fK af;exact ⟨.inl ⟨bI, xs, az, hex _ _ _⟩, zt, fun g aq => ⟨(xd g (Cy g aq)).1, fun k cs af => (by cases af)⟩⟩
  ·obtain ⟨rfl, rfl⟩ := fK aJ;obtain ⟨rfl, rfl⟩ := fK ab;exact absurd rfl jm
 have hF := RV (i := i) (j := j) (r := ⟨r.e, r.sz, r.v, r.n, xs.map AC.c⟩) (hp (xs.map AC.c) (by rw [mP]; exact ak.1.symm) (cB.2 zt)) bI zt (fun v q ⟨v', hv, al⟩ => by
  subst al; exact ⟨hv, uu.of fun y ai => by obtain ⟨v, _, rfl⟩ := iv.1 ai; exact ⟨v, rfl⟩⟩)
 refine (hF.call U ad W vs ih cp cL).mono ?_;rintro e bh ⟨v, b6, aG, ay, aY, cF, di, ⟨q, rfl, rfl, aP, v', rfl, rfl⟩, h2, an, aE, cY, fh, jM, pA, iT⟩
 have zc : ∀ b, en ad ca (br i ⟨r.e, r.sz, r.v, r.n, xs.map AC.c⟩) b → r.own b := fun b ab => by
  rcases ab with ⟨k, cs, af, _⟩ | ⟨k, q, af, aq⟩
  ·cases af
  ·obtain ⟨rfl, rfl⟩ := fK af; exact Cy b aq
 have zn : ∀ b, U b → b < W.heap.size → bh.heap[b]? = W.heap[b]? := fun b ab bg => iT.block b ⟨bg, fun aU => (xd b (zc b aU)).1 ab⟩
 have np : ∀ k q, bV (br j ⟨r.e, r.sz, v', r.n, r.aS⟩) (br i r) k = some q → ∃ u, q = ⟨r.e, r.sz, u, r.n, r.aS⟩ ∧ bV (br j ⟨r.e, r.sz, v', r.n, xs.map AC.c⟩) (br i ⟨r.e, r.sz, r.v, r.n, xs.map AC.c⟩) k = some ⟨r.e, r.sz, u, r.n, xs.map AC.c⟩ := fun k q af => by
  rcases jZ af with af | ⟨ax, af⟩
  ·obtain ⟨rfl, rfl⟩ := fK af;exact ⟨v', rfl, hL (by unfold br; exact cx _ _ _)⟩
  ·obtain ⟨rfl, rfl⟩ := fK af;refine ⟨q.v, rfl, ?_⟩;rw [hM (by unfold br; rw [cl _ _ gG]; rfl)];exact r5 _
 refine ⟨v, aR v', ca, bV (br j ⟨r.e, r.sz, v', r.n, r.aS⟩) (br i r), aY, fun b => cF b ∨ (U b ∧ b < W.heap.size), di, ⟨v', rfl, rfl, rfl⟩, ⟨fun k cs af => (by cases af), fun k cs x j af => (by cases af), fun k k' cs au af => (by cases af), fun k q af => ?_, fun a b q bX aJ ab jm g aq eo => ?_⟩, an, fun j ae => absurd ae (iE _ j), fun k cs af => (by cases af), fun k q af => ?_, fun b ab => ?_, fun b ab => ?_, ⟨iT.os, iT.tape, iT.output, iT.size, fun b ab => iT.block b ⟨ab.1, fun aU => ab.2 (.inr ⟨i, r, r5 r, zc b aU⟩)⟩⟩⟩
 ·obtain ⟨u, rfl, eL⟩ := np k q af;obtain ⟨eW, z2, z3⟩ := h2.rows k _ eL;obtain ⟨xY, hn, e1⟩ := eW.row bI;have := bL.Wv e1;subst this;refine ⟨.inl ⟨bI, xY, hn, ak.map (fun b ab bg => ⟨.inr ⟨ab, bg⟩, zn b ab bg⟩) fun k x aa ae => absurd ae (AC.du (cZ x aa) k)⟩, cZ, fun g aq => ⟨?_, fun k cs af => (by cases af)⟩⟩;have eo := Du (zs := xY.map AC.c) bI aq;rintro (dx | ⟨dx, bg⟩)
  ·exact (z3 g eo).1 dx
  ·rcases pA g (.inr ⟨k, _, eL, eo⟩) with aU | aU
   ·exact (xd g (zc g aU)).1 dx
   ·omega
 ·obtain ⟨u, rfl, pD⟩ := np a q aJ;obtain ⟨oe, rfl, c4⟩ := np b bX ab;exact h2.apart a b _ _ pD c4 jm g (Du bI aq) (Du bI eo)
 ·obtain ⟨rfl, rfl⟩ := fK af;exact ⟨q, by rw [hM (by unfold br; rw [cl _ _ gG]; rfl)]; exact r5 q⟩
 ·rcases ab with ab | ab
  ·rcases jM b ab with h | h | h
   ·exact .inl h
   ·exact .inr (.inl h)
   ·exact .inr (.inr (.inr ⟨i, r, r5 r, zc b h⟩))
  ·exact .inl ab.1
 ·rcases ab with ⟨k, cs, af, _⟩ | ⟨k, q, af, aq⟩
  ·cases af
  ·obtain ⟨u, rfl, eL⟩ := np k q af;rcases pA b (.inr ⟨k, _, eL, Du bI aq⟩) with h | h
   ·exact .inl (.inr ⟨i, r, r5 r, zc b h⟩)
   ·exact .inr h
theorem GY (i j : Nat) (gG : i ≠ j) {dst : Option Nat} {f : FuncId} {g : Operand} {aL : Array TypeId} {x : Operand} {r : bG} [E : Enters P f] (hw : want ops ⟨dst, .call ⟨.value g, #[x], aL⟩, ty, pos, after, guard⟩ s = some true) (hm : dW dr ⟨dst, .call ⟨.value g, #[x], aL⟩, ty, pos, after, guard⟩ = true)
  (aq : s.look g = some (aR (.func (.func f) #[] #[]))) (aJ : s.look x = some (aR r.v)) (hp : ∀ aS : List AC, aS.length = r.aS.length → aS.all AC.aZ = true → pe P f [cy r.sz r.n aS] fun v q => ∃ v', v = aR v' ∧ q = ⟨r.e, r.sz, v', r.n, aS⟩) (hi : R i = some r) (bI : 0 < r.sz) (cZ : ∀ y ∈ r.aS, y.aZ = true) (hd : kT dst s.n = true)
  (h : ∀ v', cQ P ops dr K rest (bK R j ⟨r.e, r.sz, v', r.n, r.aS⟩) (s.put dst (aR v'))) : cQ P ops dr K (⟨dst, .call ⟨.value g, #[x], aL⟩, ty, pos, after, guard⟩ :: rest) R s := by
 refine Nc (l := [x]) (args := [aR r.v]) hw hm aq (by simp [aJ]) (ag5 (j := j) gG hp bI cZ) (fun k q af => ?_) rfl hd ?_
 ·obtain ⟨rfl, rfl⟩ := fK af; exact hi
 rintro v aG ay ⟨v', rfl, rfl, rfl⟩;refine ⟨rfl, ?_⟩
 have aF : bV (bV (br j ⟨r.e, r.sz, v', r.n, r.aS⟩) (br i r)) R = bK R j ⟨r.e, r.sz, v', r.n, r.aS⟩ := by
  funext k
  by_cases ie : k = j
  ·subst ie;rw [cx];exact hL (hL (by unfold br; exact cx _ _ _))
  ·rw [cl _ _ ie]
   by_cases qw : k = i
   ·subst qw;rw [hi];exact hL (by rw [hM (by unfold br; rw [cl _ _ ie]; rfl)]; unfold br; exact cx _ _ _)
   ·exact hM (by rw [hM (by unfold br; rw [cl _ _ ie]; rfl)]; unfold br; rw [cl _ _ qw]; rfl)
 rw [aF];exact h v'
end
section
variable {P : Program} {s : aA} {ops : Array Oper} {K : aA → Prop} {rest : List Oper} {ty : Nat} {pos : String} {after : Array Edge} {guard : Option (Nat × Bool)} {d : Nat}
theorem T4 {t dU k off : Nat} {x : Operand} (hw : want ops ⟨some d, .binOp .eql t x (.const (.pointer none)) dU, ty, pos, after, guard⟩ s = some true) (aa : s.look x = some (.w (.one (.own k off)))) (hu : NJ P t = true) (hd : Nat.blt d s.n = true) (h : bb P ops K rest (s.put (some d) (bk false))) : bb P ops K (⟨some d, .binOp .eql t x (.const (.pointer none)) dU, ty, pos, after, guard⟩ :: rest) s := by
 obtain ⟨e, he⟩ : ∃ e, P.underlying t = some (.pointer e) := by
  unfold NJ at hu
  split at hu
  ·rename_i e he; exact ⟨e, he⟩
  ·cases hu
 refine fN (av := bk false) hw ⟨fun _ _ h => (by cases h), fun z aP => ?_, fun U ad W env MN => ?_, fun j ae => absurd ae (iE _ j)⟩ hd h
 ·simp [Op.operands] at aP;rcases aP with rfl | rfl
  ·exact ⟨_, aa⟩
  ·exact ⟨_, rfl⟩
 ·have aF := MN x (by simp [Op.operands]) _ aa;have aF : env x = .pointer (some ⟨ad k, off, none⟩) := aF;have aM : env (.const (.pointer none)) = .pointer none := (MN (.const (.pointer none)) (by simp [Op.operands]) _ rfl).1;refine ⟨.bool false, ?_, rfl, rfl⟩;simp only [execOp, aF, aM, WZ, Sem.run_bind, Sem.run_pure, Result.andThen_ok, afv he]
end
section
variable {P : Program} {f : FuncId} {args : List ah} {m0 : Mem} {R0 : aI} {Post Post2 : ah → Mem → aI → Prop}
def oA (i : Nat) (R : aI) : aI := fun j => if j = i then none else R j
theorem dk.uR (i : Nat) (h : dk P f args m0 R0 Post) (aD : R0 i = none)
  (hp : ∀ b0 aG ay, Post b0 aG ay → ∃ q Am, ay i = some q ∧ 0 < q.sz ∧ (∀ U ad W v, da U ad W b0 v → gh U ad W (.p (cc q.sz q.n q.aS)) q.v → da U ad W Am v) ∧ (∀ j, Am.owns j → b0.owns j) ∧ Post2 Am aG (oA i ay)) : dk P f args m0 R0 Post2 := by
 refine ⟨fun U ad W vs cj cp cL => (h.call U ad W vs cj cp cL).mono ?_⟩;rintro e bh ⟨v, r, aG, ay, aY, cF, di, h1, h2, an, aE, cY, fh, jM, pA, iT⟩;obtain ⟨q, Am, hi, aP, hv, hw, W5⟩ := hp r aG ay h1;obtain ⟨eW, z2, z3⟩ := h2.rows i q hi;have Cw : ∀ b, cF b → b < bh.heap.size → (fun b => cF b ∨ q.own b) b ∧ bh.heap[b]? = bh.heap[b]? := fun b ab _ => ⟨.inl ab, rfl⟩;have Y1 : gh (fun b => cF b ∨ q.own b) aY bh (.p (cc q.sz q.n q.aS)) q.v := eW.RK aP q.aS (fun xs ak => ak.map Cw fun _ _ _ _ => rfl) z2 fun b ab => .inr ab;have ap : da (fun b => cF b ∨ q.own b) aY bh r v := an.map Cw fun _ _ => rfl
 have Cg : ∀ k x, oA i ay k = some x → k ≠ i ∧ ay k = some x := fun k x af => by
  unfold oA at af
  split at af
  ·cases af
  ·rename_i bU; exact ⟨bU, af⟩
 refine ⟨v, Am, aG, oA i ay, aY, fun b => cF b ∨ q.own b, di, W5, ⟨fun k cs af => ?_, h2.fJ, h2.inj, fun k x af => ?_, fun a b x y aJ ab jm g aq eo => ?_⟩, hv _ _ _ _ ap Y1, fun j ae => aE j (hw j ae), cY, fun k x af => ?_, fun b ab => ?_, fun b ab => ?_, iT⟩
 ·obtain ⟨xs, ty, a1, a2, a3⟩ := h2.dn k cs af;exact ⟨xs, ty, a1, a2.map Cw fun _ _ _ _ => rfl, fun aU => aU.elim a3 fun aq => (z3 _ aq).2 k cs af rfl⟩
 ·obtain ⟨bU, eL⟩ := Cg k x af;obtain ⟨a1, a2, a3⟩ := h2.rows k x eL;exact ⟨a1.kept a2 (fun _ _ => rfl) (dJ _) Cw, a2, fun g aq => ⟨fun aU => aU.elim (a3 g aq).1 fun eo => h2.apart k i x q eL hi bU g aq eo, (a3 g aq).2⟩⟩
 ·obtain ⟨_, pD⟩ := Cg a x aJ;obtain ⟨_, c4⟩ := Cg b y ab;exact h2.apart a b x y pD c4 jm g aq eo
 ·obtain ⟨x', kF⟩ := fh k x af;refine ⟨x', ?_⟩;unfold oA;rw [if_neg (fun e => by subst e; rw [aD] at af; cases af)];exact kF
 ·rcases ab with ab | ab
  ·exact jM b ab
  ·rcases pA b (.inr ⟨i, q, hi, ab⟩) with aU | aU
   ·exact .inr (.inr aU)
   ·exact .inr (.inl aU)
 ·refine pA b ?_;rcases ab with ⟨k, cs, af, e⟩ | ⟨k, x, af, aq⟩
  ·exact .inl ⟨k, cs, af, e⟩
  ·exact .inr ⟨k, x, (Cg k x af).2, aq⟩
theorem AC.p6 (x : AC) : x.a6 (fun j => j) = x := by cases x <;> rfl
theorem AC.QW (xs : List AC) : xs.map (AC.a6 fun j => j) = xs := by
 conv => rhs; rw [← List.map_id xs]
 exact nE fun x _ => AC.p6 x
theorem bz.p6 (x : bz) : x.a6 (fun j => j) = x := by
 cases x with
 | one x => show bz.one (x.a6 _) = _; rw [AC.p6]
 | agg xs => show bz.agg (xs.map _) = _; rw [AC.QW]
theorem ah.p6 (x : ah) : x.a6 (fun j => j) = x := by
 cases x with
 | w x => show ah.w (x.a6 _) = _; rw [bz.p6]
 | cr xs =>
  show ah.cr (xs.map _) = _;congr 1
  conv => rhs; rw [← List.map_id xs]
  exact nE fun x _ => bz.p6 x
theorem Mem.p6 (m : Mem) : Mem.a6 (fun j => j) m = m := by
 funext k;show (m k).map _ = m k;cases m k with
 | none => rfl
 | some cs => show some (cs.map _) = _; rw [AC.QW]
theorem dk.rn {b4 : Nat → Nat} (fH : ∀ j, b4 (b4 j) = j) (h : dk P f args m0 R0 Post) : dk P f args m0 (R0.a6 b4) fun b0 aG ay => ∃ ba, Post b0 aG ba ∧ ay = ba.a6 b4 := by
 have h1 := h.a6 (bF := fun j => j) (fun _ => rfl) (b4 := b4) (ix := b4) fH fH
 rw [show args.map (ah.a6 fun j => j) = args from by
  conv => rhs; rw [← List.map_id args]
  exact nE fun x _ => ah.p6 x, Mem.p6] at h1
 refine ⟨fun U ad W vs cj cp cL => (h1.call U ad W vs cj cp cL).mono ?_⟩;rintro cX bh ⟨v, r, aG, ay, aY, cF, di, ⟨b6, m1, ba, al, rfl, rfl, rfl⟩, me⟩;rw [ah.p6, Mem.p6] at me;exact ⟨v, b6, m1, ba.a6 b4, aY, cF, di, ⟨ba, al, rfl⟩, me⟩
theorem dk.imp (h : dk P f args m0 R0 Post) (hp : ∀ b0 aG ay, Post b0 aG ay → Post2 b0 aG ay) : dk P f args m0 R0 Post2 :=
 ⟨fun U ad W vs cj cp cL => (h.call U ad W vs cj cp cL).mono (by
  rintro cX bh ⟨v, r, aG, ay, aY, cF, di, h1, me⟩;exact ⟨v, r, aG, ay, aY, cF, di, hp _ _ _ h1, me⟩)⟩
end
end Go.Proofs.YtbcecodakfejaaaGreat
namespace Go.Proofs.YtbcecodakfejaaaGreat
open Go.ChangeShapes Go.WideShapes Go.ChangeAt Go.RowKit Go.Joins
def rS (L : List (List Int)) : List AC := L.flatten.map fun x => .c (.int .i64 x)
theorem Vj {W : World} {b : Addr} {v : Value} (h : W.cell? b = some v) : b.block < W.heap.size := by
 unfold World.cell? at h
 split at h
 ·rename_i aU; exact (jv.1 aU).1
 ·cases h
theorem Ma {W : World} {a : Addr} {z : Nat} : ∀ (L : List (List Int)) (k : Nat), (∀ (i : Nat) (x : List Int), L[i]? = some x → x.length = z ∧ ∀ (o : Nat) (y : Int), x[o]? = some y → W.cell? (a.add ((k + i) * z + o)) = some (.int .i64 y)) →
  ∀ (j : Nat) (u : Int), L.flatten[j]? = some u → W.cell? (a.add (k * z + j)) = some (.int .i64 u)
 | [], k, h, j, u, hu => by simp at hu
 | x :: L, k, h, j, u, hu => by
  obtain ⟨ak, aa⟩ := h 0 x rfl;rw [List.flatten_cons] at hu;rcases hz j x.length with ae | ae
  ·rw [gd ae] at hu;have := aa j u hu;rwa [Nat.add_zero] at this
  ·rw [gz ae] at hu
   have := Ma L (k + 1) (fun i y ai => by
    have := h (i + 1) y (by simpa using ai);rw [show k + (i + 1) = k + 1 + i by omega] at this;exact this) (j - x.length) u hu
   rw [show (k + 1) * z + (j - x.length) = k * z + j by rw [kq, Nat.one_mul]; omega] at this;exact this
theorem aci {H : Type} {enc : TypeId × Value → H} {P : Program} {W : World} {t e : TypeId} (z : Nat) (aB : P.underlying t = some (.slice e)) (ce : P.cellsOf e = z)
  (yY : ∀ (n : Nat) (cs : List Value) d, DataW.trod enc P W 0 (fun _ => true) true n e cs = some d → ∃ xs : List Int, cs = xs.map (Value.int .i64))
  {v : Value} {d : DataW H} {p : List MemPlace} (hv : ∃ a len cap, v = .slice a len cap) (aD : DataW.Trod enc P W 0 (fun _ => true) true t v d p) (aP : 0 < z) :
  ∃ L : List (List Int), (L.length : Int) ≤ 9223372036854775807 ∧ (∀ x ∈ L, x.length = z) ∧ da (fun _ => True) id W (cy z L.length (rS L)) v := by
 obtain ⟨a0, sd, ahI, rfl⟩ := hv;obtain ⟨fg, ar⟩ := aD;rcases Go.Deep.open_slice aB ar with ⟨dT, aa⟩ | ⟨a, len, cap, m, n, D, ahp, dT, ab, ak, hm, tw, aa, hi⟩
 ·simp [Value.cells] at dT;obtain ⟨rfl, rfl, rfl⟩ := dT;exact ⟨[], by decide, fun x aa => (by cases aa), ⟨none, 0, rfl, dJ _, by simp [rS], fun h => absurd h (Nat.lt_irrefl _)⟩, fun _ _ => trivial⟩
 ·simp [Value.cells] at dT;obtain ⟨rfl, rfl, rfl⟩ := dT;simp only [if_true] at tw;subst tw;rw [ce] at hi
  have each : ∀ i, i < m → ∃ q : List Int, q.length = z ∧ ∀ (o : Nat) (y : Int), q[o]? = some y → W.cell? (a.add (i * z + o)) = some (.int .i64 y) := fun i h => by
   obtain ⟨au, h1, h2⟩ := hi i h;obtain ⟨_, hlen, jn⟩ := World.cells?_some h1;obtain ⟨xs, rfl⟩ := yY _ _ _ h2;refine ⟨xs, by simpa using hlen, fun o y ai => ?_⟩
   have az : o < z := by
    have := (bM.1 ai).1;simp at hlen; omega
   have := jn o az;rw [Go.Deep.add_add, eg, ai] at this;exact this
  obtain ⟨q, al⟩ := Go.Deep.choose_lt each
  have dF : ∀ (i : Nat) (x : List Int), ((List.range sd).map q)[i]? = some x → x.length = z ∧ ∀ (o : Nat) (y : Int), x[o]? = some y → W.cell? (a.add ((0 + i) * z + o)) = some (.int .i64 y) := by
   intro i x aa;rw [eg] at aa;cases ap : (List.range sd)[i]? with
   | none => rw [ap] at aa; cases aa
   | some j =>
    rw [ap] at aa;cases aa;obtain ⟨an, aE⟩ := bM.1 ap;simp at an aE;subst aE;rw [jd];exact al i (by omega)
  have gD := Ma ((List.range sd).map q) 0 dF
  have y6 : ∀ x ∈ (List.range sd).map q, x.length = z := fun x aa => by
   obtain ⟨i, c8⟩ := j1 aa;exact (dF i x c8).1
  have w4 : ∀ L : List (List Int), (∀ x ∈ L, x.length = z) → L.flatten.length = L.length * z := by
   intro L
   induction L with
   | nil => intro _; simp
   | cons x L b5 =>
    intro h;rw [List.flatten_cons, cJ, b5 (fun y ai => h y (by simp [ai])), h x (by simp), iI, kq];omega
  refine ⟨(List.range sd).map q, by simp; unfold maxLen at hm; omega, y6, ?_⟩;refine ⟨⟨some a, m, by simp, by simpa using ak, by rw [rS, mP, w4 _ y6], fun ax => ⟨a, ((List.range sd).map q).flatten.map fun x => Value.int .i64 x, rfl, ?_, ⟨by rw [rS, mP, mP], fun i x u aa hu => ?_⟩, fun j u hu => ?_, fun y ai => ?_⟩⟩, fun _ _ => trivial⟩
  ·have GJ : 0 < sd := by simpa using ax
   obtain ⟨h1, h2⟩ := al 0 (by omega);have := Vj (h2 0 _ (bN (by omega)));rwa [block_add] at this
  ·unfold rS at aa;rw [eg] at aa hu;cases ap : ((List.range sd).map q).flatten[i]? with
   | none => rw [ap] at aa; cases aa
   | some y =>
    rw [ap] at aa hu;cases aa; cases hu;exact ⟨rfl, rfl⟩
  ·rw [eg] at hu;cases ap : ((List.range sd).map q).flatten[j]? with
   | none => rw [ap] at hu; cases hu
   | some y =>
    rw [ap] at hu;cases hu;have := gD j y ap;rwa [Nat.zero_mul, jd] at this
  ·unfold rS at ai;obtain ⟨x, _, rfl⟩ := iv.1 ai;rfl
theorem FD {H : Type} {enc : TypeId × Value → H} {P : Program} {W : World} {e : TypeId} (e5 : P.underlying e = some (.int .i64)) {n : Nat} {cs : List Value} {d : DataW H × List MemPlace} (h : DataW.trod enc P W 0 (fun _ => true) true n e cs = some d) (ak : cs.length = 1) : ∃ x : Int, cs = [.int .i64 x] := by
 match cs, ak with
 | [v], _ =>
  obtain ⟨x, aa, _⟩ := DataW.trod_int e5 h;simp at aa;exact ⟨x, by rw [aa]⟩
theorem LB {H : Type} {enc : TypeId × Value → H} {P : Program} {W : World} {e : TypeId} {f0 f1 : Field} (he : P.underlying e = some (.struct #[f0, f1])) (ce : P.cellsOf e = 2) (Dq : f0.offset = 0) (o1 : f1.offset = 1) (gT : P.cellsOf f0.type = 1) (c1 : P.cellsOf f1.type = 1) (e5 : P.underlying f0.type = some (.int .i64)) (bl : P.underlying f1.type = some (.int .i64))
  {n : Nat} {cs : List Value} {d : DataW H × List MemPlace} (h : DataW.trod enc P W 0 (fun _ => true) true n e cs = some d) : ∃ x y : Int, cs = [.int .i64 x, .int .i64 y] := by
 obtain ⟨xs, k, _, _, cZ, oN, ar⟩ := DataW.trod_struct he h;rw [ce] at cZ
 match cs, cZ, xs, oN with
 | [u, v], _, [d0, d1], _ =>
  have g0 := ar 0 f0 rfl;have g1 := ar 1 f1 rfl;simp [Dq, o1, gT, c1] at g0 g1;obtain ⟨x, aa⟩ := FD e5 g0 rfl;obtain ⟨y, ai⟩ := FD bl g1 rfl;cases aa; cases ai;exact ⟨x, y, rfl⟩
end Go.Proofs.YtbcecodakfejaaaGreat
