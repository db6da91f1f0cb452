/-
  My own texts, without what this claim does not need. My own text.
-/
import Derived.Lib.SliceRun
import Derived.Test.YtbcecodakfejaaaGreatSChainsK8
set_option maxRecDepth 100000
set_option maxHeartbeats 64000000
set_option linter.unusedVariables false
set_option linter.unusedSimpArgs false
set_option linter.unusedSectionVars false
open Go.Proofs.Tryz renaming prog → ag
namespace Go.Proofs.YtbcecodakfejaaaGreat
open Go.RowKit
def TX (k : Int) (r : Nat) (m : Nat) (aM : List (Nat × ah)) (bi : List (Nat × List AC)) : Prop :=
 ∃ (i : Nat) (v j : Int), i ≤ r ∧ m = r - i ∧ v = 2 ^ i ∧ j = i ∧ bi = [] ∧ aM = [(0, aE k), (3, aE v), (4, aE j)]
theorem aev {i r : Nat} (h : i ≤ r) (ap : r ≤ 28) : (0 : Int) < 2 ^ i ∧ (2 : Int) ^ i ≤ 268435456 := by
 have := DK (r := i) (by omega);omega
theorem adl {k : Int} {r : Nat} (h : fQ k r) : aH ag 36 [aE k] (aE (2 ^ r)) := by
 have aW := zQ h;have ap := h.1;clear h;refine bl (f := 36) Tryz.func36 rfl rfl rfl rfl ?_;(refine eS ?_);refine qv 14 (TX k r) r _ [] ⟨0, 1, 0, dx _, rfl, rfl, rfl, rfl, rfl⟩ rfl ⟨rfl, rfl, rfl, trivial⟩ trivial rfl ?_;rintro m aM bi ⟨i, v, j, hi, rfl, hv, ae, rfl, rfl⟩ cT;clear cT
 by_cases q : i < r
 ·have cd : j < r := by omega
  have aP : 2 * v = 2 ^ (i + 1) := by rw [hv, oe, iq]
  obtain ⟨fA, b1⟩ := aev hi ap;rw [← hv] at fA b1;have jH : (0 : Int) ≤ j ∧ j ≤ 28 := by omega
  clear hv;(refine cc ?_);exact ⟨r - (i + 1), _, [], by omega, ⟨i + 1, 2 * v, j + 1, by omega, rfl, aP, by omega, rfl, rfl⟩, rfl, ⟨rfl, rfl, rfl, trivial⟩, trivial, rfl⟩
 ·have cd : ¬ j < r := by omega
  have e : i = r := by omega
  rw [e] at hv;clear hi q e;(refine cc ?_)
  ((refine bd rfl (a8 rfl aL) ?_))
  exact ah.aS.of_eq (by rw [hv]; rfl)
theorem Xw {P v : Int} (ef : 0 < P) : 2 * ((2 * v + P) / (2 * P) * P) ≤ 2 * v + P ∧ 2 * v + P < 2 * ((2 * v + P) / (2 * P) * P) + 2 * P := by
 have h1 := o6 (2 * v + P) (2 * P);have h2 := nB (2 * v + P) (show 2 * P ≠ 0 by omega);have ao := mK (2 * v + P) (show 0 < 2 * P by omega);have e : 2 * P * ((2 * v + P) / (2 * P)) = 2 * ((2 * v + P) / (2 * P) * P) := by rw [ki, iq P]
 omega
theorem GL {a1 a2 b1 b2 q1 q2 : Int} {r : Nat} (ap : r ≤ 28) : wQ a1 a2 b1 b2 q1 q2 r = true ↔ dd r q1 q2 = true ∧ xa a1 a2 b1 b2 (2 * (2 ^ r * q1) - 2 ^ r) (2 * (2 ^ r * q2) - 2 ^ r) (2 * (2 ^ r * q1) + 2 ^ r) (2 * (2 ^ r * q2) + 2 ^ r) 0 = true := by
 unfold wQ;have g1 : decide ((0 : Int) ≤ (r : Int)) = true := bZ (by omega);have g2 : decide ((r : Int) ≤ 28) = true := bZ (by omega);rw [g1, g2, kH, Bool.and_self, l8, c5]
def uv (p : aj) : Prop := (-9223372036854775808 ≤ p.1 ∧ p.1 ≤ 9223372036854775807) ∧ -9223372036854775808 ≤ p.2 ∧ p.2 ≤ 9223372036854775807
def qX (a1 a2 b1 b2 k : Int) (p : aj) : Bool := wQ a1 a2 b1 b2 p.1 p.2 k
def TJ (l : List aj) (n : Nat) (R : aI) (aM : List (Nat × ah)) (bi : List (Nat × List AC)) : Prop :=
 ∃ (k : Nat) (v : Value) (cU : Int), k ≤ l.length ∧ n = l.length - k ∧ cU = k ∧ R = bt 0 (q9 v (l.take k)) ∧ bi = [] ∧ aM = [(3, aQ v), (6, gq l), (7, aE l.length), (8, aE cU)]
theorem ada {l : List aj} (ak : l.length ≤ 50000) : aH ag 15 [gq l] (gq l) := by
 refine bl (f := 15) Tryz.func15 rfl rfl rfl rfl ?_;refine pw ?_;refine mb 0 40 2 rfl ?_;(refine ba ?_);refine jW 18 (TJ l) l.length (bt 0 (q9 (.slice none 0 0) [])) _ [] ⟨0, .slice none 0 0, 0, dx _, rfl, rfl, rfl, rfl, rfl⟩ (kI _ _ _) rfl ⟨rfl, rfl, rfl, rfl, trivial⟩ trivial rfl ?_;rintro n R aM bi ⟨k, v, cU, af, rfl, hA, rfl, rfl, rfl⟩ cT;clear cT;have zj : (l.take k).length ≤ k := by rw [dX]; omega
 by_cases an : k < l.length
 ·have q2 : cU < (l.length : Int) := by omega
  have bR : 0 ≤ cU := by omega
  obtain ⟨x, y, g1⟩ : ∃ x y, l[k]? = some (x, y) := ⟨_, _, bJ an⟩;have iK := lV hA g1
  have aB : l.take (k + 1) = l.take k ++ [(x, y)] := by
   rw [jT an, (bA.1 g1).2]
  (refine ba ?_);refine n2 0 rfl rfl rfl rfl ?q1 ?q2 rfl rfl (fun v' bQ => ?_)
  case q1 => exact js (by show (l.take k).length + 1 ≤ 1000000; omega)
  case q2 => show ((l.take k).length + 1) * 16 ≤ 140737488355328; omega
  (refine ba ?_);refine ⟨l.length - (k + 1), bt 0 (q9 v' (l.take (k + 1))), _, [], by omega, ⟨k + 1, v', cU + 1, by omega, rfl, by omega, rfl, rfl, rfl⟩, ?_, rfl, ⟨rfl, rfl, rfl, rfl, trivial⟩, trivial, rfl⟩;rw [aB, Qe]; exact kI _ _ _
 ·have q2 : ¬ cU < (l.length : Int) := by omega
  have cq : l.take k = l := gn (by omega);rw [cq];refine Af 0 3 (q9 v l) rfl rfl ?_;(refine ba ?_)
  ((refine bd rfl (a8 rfl aL) ?_))
  exact ah.aS.refl _
end Go.Proofs.YtbcecodakfejaaaGreat
namespace Go.Proofs.YtbcecodakfejaaaGreat
def n7 (a b x far t : Rat) : Prop := -far ≤ 2 * a + t * (2 * (b - a)) - x ∧ 2 * a + t * (2 * (b - a)) - x ≤ far
def nt (S p q x u : Rat) : Prop := 2 * (S * x) - S ≤ 2 * (S * p + u * (S * q - S * p)) ∧ 2 * (S * p + u * (S * q - S * p)) < 2 * (S * x) + S
theorem PL {a b p q x S d t1 t2 u : Rat} (h1 : n7 a b (2 * (S * p)) (d * S) t1) (h2 : n7 a b (2 * (S * q)) (d * S) t2) (kk : 0 ≤ u) (cy : u ≤ 1) (hm : nt S p q x u) : n7 a b (2 * (S * x)) ((d + 1) * S) (t1 + u * (t2 - t1)) := by
 obtain ⟨a1, a2⟩ := h1;obtain ⟨b1, b2⟩ := h2;obtain ⟨m1, m2⟩ := hm;have v0 : 0 ≤ 1 - u := by grind
 have bn := iF v0 (show 0 ≤ 2 * a + t1 * (2 * (b - a)) - 2 * (S * p) + d * S by grind);have bY := iF v0 (show 0 ≤ d * S - (2 * a + t1 * (2 * (b - a)) - 2 * (S * p)) by grind);have fW := iF kk (show 0 ≤ 2 * a + t2 * (2 * (b - a)) - 2 * (S * q) + d * S by grind);have iX := iF kk (show 0 ≤ d * S - (2 * a + t2 * (2 * (b - a)) - 2 * (S * q)) by grind)
 constructor
 ·grind
 ·grind
theorem PM {a b x f g t : Rat} (wM : f ≤ g) (h : n7 a b x f t) : n7 a b x g t := by
 obtain ⟨h1, h2⟩ := h
 constructor <;> grind
theorem PN {a b x f t : Rat} (h : n7 a b x f t) : n7 b a x f (1 - t) := by
 obtain ⟨h1, h2⟩ := h
 constructor <;> grind
abbrev aO (n : Int) : Rat := (n : Rat)
def kD (a1 a2 b1 b2 S : Int) (far t : Rat) (v : aj) : Prop := n7 (aO a1) (aO b1) (2 * (aO S * aO v.1)) far t ∧ n7 (aO a2) (aO b2) (2 * (aO S * aO v.2)) far t
def ql (S : Int) (p q : aj) (u : Rat) (x : aj) : Prop := (0 ≤ u ∧ u ≤ 1) ∧ nt (aO S) (aO p.1) (aO q.1) (aO x.1) u ∧ nt (aO S) (aO p.2) (aO q.2) (aO x.2) u
theorem acd {a1 a2 b1 b2 S : Int} {d t1 t2 u : Rat} {p q x : aj} (h1 : kD a1 a2 b1 b2 S (d * aO S) t1 p) (h2 : kD a1 a2 b1 b2 S (d * aO S) t2 q) (hm : ql S p q u x) : kD a1 a2 b1 b2 S ((d + 1) * aO S) (t1 + u * (t2 - t1)) x :=
 ⟨PL h1.1 h2.1 hm.1.1 hm.1.2 hm.2.1, PL h1.2 h2.2 hm.1.1 hm.1.2 hm.2.2⟩
theorem ace {a1 a2 b1 b2 S : Int} {f g t : Rat} {v : aj} (wM : f ≤ g) (h : kD a1 a2 b1 b2 S f t v) : kD a1 a2 b1 b2 S g t v := ⟨PM wM h.1, PM wM h.2⟩
theorem acf {a1 a2 b1 b2 S : Int} {f t : Rat} {v : aj} (h : kD a1 a2 b1 b2 S f t v) : kD b1 b2 a1 a2 S f (1 - t) v := ⟨PN h.1, PN h.2⟩
theorem mM {a b : Int} : aO a ≤ aO b ↔ a ≤ b := Rat.intCast_le_intCast
theorem IF {a b : Int} : aO a < aO b ↔ a < b := Rat.intCast_lt_intCast
theorem nD {a : Int} (h : 0 < a) : 0 < aO a := by have := IF.2 h; simpa [aO] using this
theorem DR {a b : Int} (h : a < b) : aO a + 1 ≤ aO b := by
 have := mM.2 (show a + 1 ≤ b from h);simpa [aO, p6] using this
theorem Pk {S p q x y : Int} {u w : Rat} (hS : 0 < S) (aa : nt (aO S) (aO p) (aO q) (aO x) u) (ai : nt (aO S) (aO p) (aO q) (aO y) w) (ie : x < y) (ia : p ≤ q) : u ≤ w := by
 have dJ := nD hS;obtain ⟨cA, cR⟩ := aa;obtain ⟨jk, qg⟩ := ai;have h1 := DR ie;have h2 := mM.2 ia;have bn := iF (mL dJ) (show 0 ≤ aO y - (aO x + 1) by grind);refine Rat.not_lt.1 fun ZF => ?_;have bY := iF (show 0 ≤ u - w by grind) (iF (mL dJ) (show 0 ≤ aO q - aO p by grind));grind
theorem Pj {S p q x y : Int} {u w : Rat} (hS : 0 < S) (aa : nt (aO S) (aO p) (aO q) (aO x) u) (ai : nt (aO S) (aO p) (aO q) (aO y) w) (ie : y < x) (ia : q ≤ p) : u ≤ w := by
 have dJ := nD hS;obtain ⟨cA, cR⟩ := aa;obtain ⟨jk, qg⟩ := ai;have h1 := DR ie;have h2 := mM.2 ia;have bn := iF (mL dJ) (show 0 ≤ aO x - (aO y + 1) by grind);refine Rat.not_lt.1 fun ZF => ?_;have bY := iF (show 0 ≤ u - w by grind) (iF (mL dJ) (show 0 ≤ aO p - aO q by grind));grind
theorem Dd {S p q x y : Int} {u w : Rat} (hS : 0 < S) (aa : nt (aO S) (aO p) (aO q) (aO x) u) (ai : nt (aO S) (aO p) (aO q) (aO y) w) (r2 : u ≤ w) (ia : p ≤ q) : x ≤ y := by
 have dJ := nD hS;obtain ⟨cA, cR⟩ := aa;obtain ⟨jk, qg⟩ := ai;refine Int.not_lt.1 fun Hs => ?_;have h1 := DR Hs;have h2 := mM.2 ia;have bn := iF (mL dJ) (show 0 ≤ aO x - (aO y + 1) by grind);have bY := iF (show 0 ≤ w - u by grind) (iF (mL dJ) (show 0 ≤ aO q - aO p by grind));grind
theorem Dc {S p q x y : Int} {u w : Rat} (hS : 0 < S) (aa : nt (aO S) (aO p) (aO q) (aO x) u) (ai : nt (aO S) (aO p) (aO q) (aO y) w) (r2 : u ≤ w) (ia : q ≤ p) : y ≤ x := by
 have dJ := nD hS;obtain ⟨cA, cR⟩ := aa;obtain ⟨jk, qg⟩ := ai;refine Int.not_lt.1 fun Hs => ?_;have h1 := DR Hs;have h2 := mM.2 ia;have bn := iF (mL dJ) (show 0 ≤ aO y - (aO x + 1) by grind);have bY := iF (show 0 ≤ w - u by grind) (iF (mL dJ) (show 0 ≤ aO p - aO q by grind));grind
theorem Pg {S p q : Int} (hS : 0 < S) : nt (aO S) (aO p) (aO q) (aO p) 0 := by
 have dJ := nD hS
 constructor <;> grind
theorem Ph {S p q : Int} (hS : 0 < S) : nt (aO S) (aO p) (aO q) (aO q) 1 := by
 have dJ := nD hS
 constructor <;> grind
theorem Db {S p q x : Int} {u : Rat} (hS : 0 < S) (az : 0 ≤ u) (h1 : u ≤ 1) (aa : nt (aO S) (aO p) (aO q) (aO x) u) : (p ≤ q → p ≤ x ∧ x ≤ q) ∧ (q ≤ p → q ≤ x ∧ x ≤ p) :=
 ⟨fun h => ⟨Dd hS (Pg hS) aa az h, Dd hS aa (Ph hS) h1 h⟩, fun h => ⟨Dc hS aa (Ph hS) h1 h, Dc hS (Pg hS) aa az h⟩⟩
theorem O9 {S : Int} {p q x y : aj} {u w : Rat} (hS : 0 < S) (aa : ql S p q u x) (ai : ql S p q w y) (h : dN (decide (S * q.1 < S * p.1)) (decide (S * q.2 < S * p.2)) x y = true) : u ≤ w := by
 have aF : (S * q.1 < S * p.1) ↔ q.1 < p.1 := ⟨fun h => Int.lt_of_mul_lt_mul_left h (by omega), fun h => Int.mul_lt_mul_of_pos_left h hS⟩;have aP : (S * q.2 < S * p.2) ↔ q.2 < p.2 := ⟨fun h => Int.lt_of_mul_lt_mul_left h (by omega), fun h => Int.mul_lt_mul_of_pos_left h hS⟩;rw [ye] at h;simp only [b4, aF, aP] at h;rcases h with h | ⟨he, h⟩
 ·by_cases g : q.1 < p.1
  ·rw [if_pos g] at h; exact Pj hS aa.2.1 ai.2.1 h (by omega)
  ·rw [if_neg g] at h; exact Pk hS aa.2.1 ai.2.1 h (by omega)
 ·by_cases g : q.2 < p.2
  ·rw [if_pos g] at h; exact Pj hS aa.2.2 ai.2.2 h (by omega)
  ·rw [if_neg g] at h; exact Pk hS aa.2.2 ai.2.2 h (by omega)
theorem Y7 {a b l n d u : Rat} (d0 : 0 < d) (hu : u * d = n) (h : 0 ≤ (2 * a - l) * (d - n) + (2 * b - l) * n) : l ≤ 2 * (a + u * (b - a)) := by
 subst hu;refine Rat.not_lt.1 fun bb => ?_;have k := Rat.mul_pos d0 (show 0 < l - 2 * (a + u * (b - a)) by grind);grind
theorem Y8 {a b l n d u : Rat} (d0 : 0 < d) (hu : u * d = n) (h : 0 < (l - 2 * a) * (d - n) + (l - 2 * b) * n) : 2 * (a + u * (b - a)) < l := by
 subst hu;refine Rat.not_le.1 fun bb => ?_;have k := iF (mL d0) (show 0 ≤ 2 * (a + u * (b - a)) - l by grind);grind
theorem sv {n d : Int} (hd : 0 < d) : aO n / aO d * aO d = aO n := Rat.div_mul_cancel (by have := nD hd; grind)
theorem NB {a b l : Int} {n d : Int} (hd : 0 < d) (h : jA (2 * a - l) (2 * b - l) true n d) : aO l ≤ 2 * (aO a + aO n / aO d * (aO b - aO a)) := by
 have h1 : 0 ≤ (2 * a - l) * (d - n) + (2 * b - l) * n := by rcases h with h | ⟨_, h⟩ <;> omega
 refine Y7 (nD hd) (sv hd) ?_;have := mM.2 h1;simpa [aO, p6, lC, p7] using this
theorem NC {a b l : Int} {n d : Int} (hd : 0 < d) (h : jA (l - 2 * a) (l - 2 * b) false n d) : 2 * (aO a + aO n / aO d * (aO b - aO a)) < aO l := by
 have h1 : 0 < (l - 2 * a) * (d - n) + (l - 2 * b) * n := by
  rcases h with h | ⟨h, _⟩
  ·exact h
  ·cases h
 refine Y8 (nD hd) (sv hd) ?_;have := IF.2 h1;simpa [aO, p6, lC, p7] using this
theorem abq {r : Nat} (ap : r ≤ 28) {p q x : aj} (h : qX (2 ^ r * p.1) (2 ^ r * p.2) (2 ^ r * q.1) (2 ^ r * q.2) r x = true) : dd r x.1 x.2 = true ∧ ∃ u, ql (2 ^ r) p q u x := by
 unfold qX at h;rw [GL ap] at h;refine ⟨h.1, ?_⟩;obtain ⟨_, n, d, hd, ⟨y1, u1⟩, g1, g2, g3, g4⟩ := HP.1 h.2;have d0 := nD hd;refine ⟨aO n / aO d, ⟨?_, ?_⟩, ⟨?_, ?_⟩, ?_, ?_⟩
 ·refine Rat.not_lt.1 fun bb => ?_;have k := Rat.mul_pos d0 (show 0 < -(aO n / aO d) by grind);have e := sv (n := n) hd;have fG := mM.2 y1;have z : aO 0 = 0 := by simp [aO]
  rw [z] at fG;generalize aO n / aO d = u at *;grind
 ·refine Rat.not_lt.1 fun bb => ?_;have k := Rat.mul_pos d0 (show 0 < aO n / aO d - 1 by grind);have e := sv (n := n) hd;have eJ := mM.2 u1;generalize aO n / aO d = u at *;grind
 ·have := NB hd g1;simpa [aO, p6, lC, p7] using this
 ·have := NC hd g3;simpa [aO, p6, lC, p7] using this
 ·have := NB hd g2;simpa [aO, p6, lC, p7] using this
 ·have := NC hd g4;simpa [aO, p6, lC, p7] using this
def wm (N : Rat → aj → Prop) : Rat → List aj → Prop
 | _, [] => True
 | t0, v :: V => ∃ t, t0 ≤ t ∧ t ≤ 1 ∧ N t v ∧ wm N t V
def LI (N : Rat → aj → Prop) (V : List aj) : Prop := (∃ v, V.head? = some v ∧ N 0 v) ∧ (∃ v, V.getLast? = some v ∧ N 1 v) ∧ wm N 0 V
def pB (p q : aj) (out : List aj) (x : aj) : List aj := if x ≠ p ∧ x ≠ q ∧ out.getLast? ≠ some x then out ++ [x] else out
def LV (p q : aj) (l : List aj) : List aj := l.foldl (pB p q) []
theorem Of {fx fy : Bool} {q : aj} : ∀ {l : List aj}, l.Pairwise (fun a b => dN fx fy b a = false) → (lU fx fy q l).Pairwise fun a b => dN fx fy b a = false
 | [], _ => by unfold lU; simp
 | p :: l, h => by
  have al := ir.1 h;unfold lU
  split
  ·rename_i an;refine ir.2 ⟨fun r ap => ?_, h⟩;rcases gj.1 ap with rfl | ap
   ·exact Kk an
   ·cases aR : dN fx fy r q with
    | false => rfl
    | true => have := al.1 r ap; rw [yf aR an] at this; cases this
  ·rename_i an;refine ir.2 ⟨fun r ap => ?_, Of al.2⟩;rcases gj.1 ((zr fx fy q l).mem_iff.1 ap) with rfl | ap
   ·simpa using an
   ·exact al.1 r ap
theorem agt (fx fy : Bool) (f : aj → Bool) (l : List aj) : (rp fx fy f l).Pairwise fun a b => dN fx fy b a = false := by
 have key : ∀ (l out : List aj), out.Pairwise (fun a b => dN fx fy b a = false) → (l.foldl (fun out q => if f q then lU fx fy q out else out) out).Pairwise fun a b => dN fx fy b a = false := by
  intro l
  induction l with
  | nil => intro out h; exact h
  | cons q l bI =>
   intro out h;rw [p5];refine bI _ ?_
   split
   ·exact Of h
   ·exact h
 exact key l [] .nil
theorem FA {fx fy : Bool} {p q : aj} : ∀ (l out : List aj), j2 fx fy out → (∀ a ∈ out, ∀ b ∈ l, dN fx fy b a = false) → l.Pairwise (fun a b => dN fx fy b a = false) → j2 fx fy (l.foldl (pB p q) out) ∧ (∀ x ∈ l.foldl (pB p q) out, x ∈ out ∨ (x ∈ l ∧ x ≠ p ∧ x ≠ q)) ∧ (l.foldl (pB p q) out).length ≤ out.length + l.length
 | [], out, h, _, _ => ⟨h, fun x aa => .inl aa, dE _⟩
 | x :: l, out, h, hw, ak => by
  have al := ir.1 ak;rw [p5]
  by_cases aa : x ≠ p ∧ x ≠ q ∧ out.getLast? ≠ some x
  ·have e : pB p q out x = out ++ [x] := by unfold pB; rw [if_pos aa]
   rw [e]
   have aJ : j2 fx fy (out ++ [x]) := by
    unfold j2;rw [List.pairwise_append];refine ⟨h, List.pairwise_singleton _ _, fun a aJ b ab => ?_⟩;rw [kF] at ab;subst ab;have h1 := hw a aJ b (jd ..)
    by_cases gb : a = b
    ·subst gb;rcases List.eq_nil_or_concat out with az | ⟨eV, z, az⟩
     ·subst az; cases aJ
     ·rw [List.concat_eq_append] at az;subst az;have aN : z ≠ a := fun aR => aa.2.2 (by rw [aR]; simp)
      have pH : a ∈ eV := by
       rcases jS.1 aJ with aK | aK
       ·exact aK
       ·exact absurd (kF.1 aK).symm aN
      have h2 := (List.pairwise_append.1 h).2.2 a pH z (kF.2 rfl);have ao := hw z (by simp) a (jd ..);rw [h2] at ao; cases ao
    ·exact (E3 gb).resolve_right (by rw [h1]; decide)
   obtain ⟨g1, g2, g3⟩ := FA l (out ++ [x]) aJ (fun a pH b ab => by
    rcases jS.1 pH with aK | aK
    ·exact hw a aK b (k5 _ ab)
    ·rw [kF.1 aK]; exact al.1 b ab) al.2
   refine ⟨g1, fun y ai => ?_, by rw [cF, List.length_singleton] at g3; simp only [jQ]; omega⟩;rcases g2 y ai with aK | aK
   ·rcases jS.1 aK with aK | aK
    ·exact .inl aK
    ·rw [kF.1 aK]; exact .inr ⟨jd .., aa.1, aa.2.1⟩
   ·exact .inr ⟨k5 _ aK.1, aK.2⟩
  ·have e : pB p q out x = out := by unfold pB; rw [if_neg aa]
   rw [e];obtain ⟨g1, g2, g3⟩ := FA l out h (fun a pH b ab => hw a pH b (k5 _ ab)) al.2;refine ⟨g1, fun y ai => ?_, by simp only [jQ]; omega⟩;rcases g2 y ai with aK | aK
   ·exact .inl aK
   ·exact .inr ⟨k5 _ aK.1, aK.2⟩
def rC (r : Nat) (l : List aj) (p q : aj) : List aj := LV p q (rp (decide ((2 : Int) ^ r * q.1 < 2 ^ r * p.1)) (decide ((2 : Int) ^ r * q.2 < 2 ^ r * p.2)) (qX (2 ^ r * p.1) (2 ^ r * p.2) (2 ^ r * q.1) (2 ^ r * q.2) r) l)
theorem Bg {r : Nat} (ap : r ≤ 28) (l : List aj) (p q : aj) : j2 (decide ((2 : Int) ^ r * q.1 < 2 ^ r * p.1)) (decide ((2 : Int) ^ r * q.2 < 2 ^ r * p.2)) (rC r l p q) ∧ (∀ x ∈ rC r l p q, (x ≠ p ∧ x ≠ q) ∧ dd r x.1 x.2 = true ∧ ∃ u, ql (2 ^ r) p q u x) ∧ (rC r l p q).length ≤ l.length := by
 obtain ⟨g1, g2, g3⟩ := FA (p := p) (q := q) _ [] (List.Pairwise.nil : j2 (decide ((2 : Int) ^ r * q.1 < 2 ^ r * p.1)) (decide ((2 : Int) ^ r * q.2 < 2 ^ r * p.2)) []) (fun a aJ => by cases aJ) (agt _ _ (qX (2 ^ r * p.1) (2 ^ r * p.2) (2 ^ r * q.1) (2 ^ r * q.2) r) l);refine ⟨g1, fun x aa => ?_, ?_⟩
 ·rcases g2 x aa with h | ⟨h1, h2⟩
  ·cases h
  ·have ao := (List.mem_filter.1 ((Ec _ _ _ l).mem_iff.1 h1)).2;exact ⟨h2, abq ap ao⟩
 ·refine il g3 ?_;rw [List.length_nil, je];exact ags _ _ _ l
def fM (R : aj → aj → Prop) : List aj → Prop
 | p :: q :: W => R p q ∧ fM R (q :: W)
 | _ => True
theorem Ft {R : aj → aj → Prop} : ∀ {l : List aj}, l.Pairwise R → fM R l
 | [], _ => trivial
 | [_], _ => trivial
 | p :: q :: W, h => by
  have al := ir.1 h;exact ⟨al.1 q (jd ..), Ft al.2⟩
theorem Fs {R : aj → aj → Prop} {q : aj} {W : List aj} : ∀ {A : List aj}, fM R (A ++ [q]) → fM R (q :: W) → fM R (A ++ q :: W)
 | [], _, h => h
 | [a], h, aK => ⟨h.1, aK⟩
 | a :: b :: A, h, aK => ⟨h.1, Fs (A := b :: A) h.2 aK⟩
theorem Bh {r : Nat} (ap : r ≤ 28) (l : List aj) (p q : aj) {R : aj → aj → Prop} (az : R p q) (h1 : ∀ x, (∃ u, ql (2 ^ r) p q u x) → R p x ∧ R x q) (h2 : ∀ x y u w, ql (2 ^ r) p q u x → ql (2 ^ r) p q w y → u ≤ w → R x y) : fM R (p :: (rC r l p q ++ [q])) := by
 obtain ⟨s1, s2, _⟩ := Bg ap l p q;have hS : (0 : Int) < 2 ^ r := gp (by decide);refine Ft (ir.2 ⟨fun x aa => ?_, List.pairwise_append.2 ⟨s1.imp_of_mem fun {x y} aa ai ie => ?_, List.pairwise_singleton _ _, fun x aa y ai => ?_⟩⟩)
 ·rcases jS.1 aa with aa | aa
  ·exact (h1 x (s2 x aa).2.2).1
  ·rw [kF.1 aa]; exact az
 ·obtain ⟨u, hu⟩ := (s2 x aa).2.2;obtain ⟨w, hw⟩ := (s2 y ai).2.2;exact h2 x y u w hu hw (O9 hS hu hw ie)
 ·rw [kF.1 ai]; exact (h1 x (s2 x aa).2.2).2
theorem Vk {r : Nat} (ap : r ≤ 28) (l : List aj) (p q : aj) (h : p ≠ q) : fM (· ≠ ·) (p :: (rC r l p q ++ [q])) := by
 obtain ⟨s1, s2, _⟩ := Bg ap l p q;refine Ft (ir.2 ⟨fun x aa => ?_, List.pairwise_append.2 ⟨s1.imp fun {x y} ie e => ?_, List.pairwise_singleton _ _, fun x aa y ai => ?_⟩⟩)
 ·rcases jS.1 aa with aa | aa
  ·exact fun e => (s2 x aa).1.1 e.symm
  ·rw [kF.1 aa]; exact h
 ·subst e; rw [Kl] at ie; cases ie
 ·rw [kF.1 ai]; exact (s2 x aa).1.2
def vz (r : Nat) (V : List aj) (D : List Int) : Prop :=
 V ≠ [] ∧ V.length = D.length + 1 ∧ (∀ v ∈ V, dd r v.1 v.2 = true) ∧ fM (· ≠ ·) V ∧ (∀ d ∈ D, 1 ≤ d ∧ d ≤ 1048576) ∧
  (fM (fun p q => p.1 ≤ q.1) V ∨ fM (fun p q => q.1 ≤ p.1) V) ∧ (fM (fun p q => p.2 ≤ q.2) V ∨ fM (fun p q => q.2 ≤ p.2) V)
def Ed (V : List aj) (j : Nat) (l : List aj) : List aj := V.take (j + 1) ++ l ++ V.drop (j + 1)
def Am (D : List Int) (j : Nat) (n : Nat) : List Int := D.take j ++ List.replicate (n + 1) (D.getD j 0 + 1) ++ D.drop (j + 1)
theorem Ww {V : List aj} {j : Nat} {p q : aj} (hp : V[j]? = some p) (an : V[j + 1]? = some q) : V.drop j = p :: q :: V.drop (j + 2) := by
 obtain ⟨h1, aF⟩ := bA.1 hp;obtain ⟨h2, aP⟩ := bA.1 an;rw [mG h1, aF, mG h2, aP]
end Go.Proofs.YtbcecodakfejaaaGreat
namespace Go.Proofs.YtbcecodakfejaaaGreat
open Go.RowKit
def oZ (a b c d : Int) : Int := if c7 a b c d = true then 0 else if a < c ∨ (a = c ∧ b < d) then -1 else 1
theorem ad2 {a b c d : Int} : aH ag 163 [aZ a b, aZ c d] (aE (oZ a b c d)) := by
 have cs : (c7 a b c d = true ∧ oZ a b c d = 0) ∨ (c7 a b c d = false ∧ a < c ∧ oZ a b c d = -1) ∨ (c7 a b c d = false ∧ ¬ a < c ∧ a = c ∧ b < d ∧ oZ a b c d = -1) ∨ (c7 a b c d = false ∧ ¬ a < c ∧ a = c ∧ ¬ b < d ∧ oZ a b c d = 1) ∨ (c7 a b c d = false ∧ ¬ a < c ∧ ¬ a = c ∧ oZ a b c d = 1) := by
  unfold oZ;cases h : c7 a b c d with
  | true => simp
  | false =>
   by_cases h1 : a < c <;> by_cases h2 : a = c <;> by_cases ao : b < d <;> simp [h1, h2, ao] <;> omega
 rcases cs with ⟨h1, h⟩ | ⟨h1, h2, h⟩ | ⟨h1, h2, ao, aD, h⟩ | ⟨h1, h2, ao, aD, h⟩ | ⟨h1, h2, ao, h⟩ <;> rw [h] <;> clear h
 all_goals
  refine bl (f := 163) Tryz.func163 rfl rfl rfl rfl ?_;(repeat first | refine eA ?_ | (with_reducible apply cg (c := true)); rfl; rfl; (exact bZ (by omega)) | (with_reducible apply cg (c := false)); rfl; rfl; (exact cp (by omega)))
  ((refine bd rfl (a8 rfl aL) ?_))
  exact ah.aS.refl _
theorem QJ {n m : Int} (az : -9223372036854775808 ≤ n) (h1 : n < 9223372036854775808) (gJ : -9223372036854775808 ≤ m) (bn : m < 9223372036854775808) : aH ag 150 [aE n, aE m] (fZ (n * m)) := by
 have aW := tP az h1;have bH := tP gJ bn;have eF := ac5 (BL az h1) (BL gJ bn);rw [vJ (agP az h1 gJ bn)] at eF;clear az h1 gJ bn;refine bl (f := 150) Tryz.func150 rfl rfl rfl rfl ?_;(refine cc ?_)
 ((refine bd rfl (cL rfl rfl rfl aL) ?_))
 exact ah.aS.refl _
theorem W3 (a b c d a' bS c' d' : Int) (W : World) : (Op.equalIn 10000 181 (.agg #[.int .i64 a, .int .i64 b, .int .i64 c, .int .i64 d]) (.agg #[.int .i64 a', .int .i64 bS, .int .i64 c', .int .i64 d'])).run ag W = .ok (uM a b c d a' bS c' d') W := by
 unfold uM c7
 go_simp
 by_cases h1 : a = a' <;> by_cases h2 : b = bS <;> by_cases ao : c = c' <;> by_cases aD : d = d' <;> simp [h1, h2, ao, aD]
instance ai3 : JF ag 181 := ⟨by kernel_rfl, W3⟩
theorem aed {a b c d : Int} : (oZ a b c d > 0 ↔ ¬ dv a b c d) := by
 unfold oZ dv;cases h : c7 a b c d with
 | true => rw [mX] at h; rw [if_pos rfl]; omega
 | false =>
  have : ¬ (a = c ∧ b = d) := fun k => by rw [mX.2 k] at h; cases h
  rw [if_neg (by simp)]
  split <;> omega
theorem Ik {a1 a2 b1 b2 : Int} : aH ag 145 [aZ a1 a2, aZ b1 b2] (.cn [.agg [.c (.int .i64 (eH a1 a2 b1 b2)), .c (.int .i64 (en a1 a2 b1 b2))], .agg [.c (.int .i64 (ep a1 a2 b1 b2)), .c (.int .i64 (ea a1 a2 b1 b2))]]) := by
 have aW := ad2 (a := a1) (b := a2) (c := b1) (d := b2);have h := aed (a := a1) (b := a2) (c := b1) (d := b2)
 have cs : (oZ a1 a2 b1 b2 > 0 ∧ eH a1 a2 b1 b2 = b1 ∧ en a1 a2 b1 b2 = b2 ∧ ep a1 a2 b1 b2 = a1 ∧ ea a1 a2 b1 b2 = a2) ∨ (¬ oZ a1 a2 b1 b2 > 0 ∧ eH a1 a2 b1 b2 = a1 ∧ en a1 a2 b1 b2 = a2 ∧ ep a1 a2 b1 b2 = b1 ∧ ea a1 a2 b1 b2 = b2) := by
  rw [h];unfold eH en ep ea
  by_cases k : dv a1 a2 b1 b2 <;> simp [k]
 clear h;generalize eH a1 a2 b1 b2 = l1 at *;generalize en a1 a2 b1 b2 = l2 at *;generalize ep a1 a2 b1 b2 = h1 at *;generalize ea a1 a2 b1 b2 = h2 at *;generalize oZ a1 a2 b1 b2 = c at *;rcases cs with ⟨q, rfl, rfl, rfl, rfl⟩ | ⟨q, rfl, rfl, rfl, rfl⟩
 all_goals
  refine bl (f := 145) Tryz.func145 rfl rfl rfl rfl ?_;(refine cc ?_)
  ((refine bd rfl (cL rfl rfl rfl (cL rfl rfl rfl aL)) ?_))
  exact ah.aS.refl _
theorem DC {a1 a2 b1 b2 : Int} : aH ag 124 [aZ a1 a2, aZ b1 b2] (jg (eH a1 a2 b1 b2) (en a1 a2 b1 b2) (ep a1 a2 b1 b2) (ea a1 a2 b1 b2)) := by
 have aW := Ik (a1 := a1) (a2 := a2) (b1 := b1) (b2 := b2);generalize eH a1 a2 b1 b2 = l1 at *;generalize en a1 a2 b1 b2 = l2 at *;generalize ep a1 a2 b1 b2 = h1 at *;generalize ea a1 a2 b1 b2 = h2 at *;refine bl (f := 124) Tryz.func124 rfl rfl rfl rfl ?_;(refine cc ?_)
 ((refine bd rfl (cL rfl rfl rfl aL) ?_))
 exact ah.aS.refl _
theorem DB {s1 s2 bN bO p1 p2 : Int} (h1 : ei s1 s2 = true) (h2 : ei bN bO = true) (ao : ei p1 p2 = true) : aH ag 125 [jg s1 s2 bN bO, aZ p1 p2] (aE (b0 s1 s2 bN bO p1 p2)) := by
 have aW := Qf h1 h2 ao;clear h1 h2 ao;generalize b0 s1 s2 bN bO p1 p2 = c at *;refine bl (f := 125) Tryz.func125 rfl rfl rfl rfl ?_;(refine cc ?_)
 ((refine bd rfl (a8 rfl aL) ?_))
 exact ah.aS.refl _
theorem acA {s1 s2 bN bO p1 p2 : Int} (h1 : ei s1 s2 = true) (h2 : ei bN bO = true) (ao : ei p1 p2 = true) : Dx p1 p2 s1 s2 bN bO = decide (df p1 p2 s1 s2 bN bO) := by
 rw [nx, b4];unfold Dx df r6;rw [h1, h2, ao];simp only [l8, c5, b4, XL]
 constructor
 ·rintro ⟨⟨a, b, c, d⟩, e⟩; exact ⟨e, a, b, c, d⟩
 ·rintro ⟨e, a, b, c, d⟩; exact ⟨⟨a, b, c, d⟩, e⟩
theorem Qo {s1 s2 bN bO p1 p2 : Int} (h1 : ei s1 s2 = true) (h2 : ei bN bO = true) (ao : ei p1 p2 = true) : aH ag 147 [jg s1 s2 bN bO, aZ p1 p2] (bk (decide (df p1 p2 s1 s2 bN bO))) := by
 have aW := adb (acA h1 h2 ao);clear h1 h2 ao;generalize decide (df p1 p2 s1 s2 bN bO) = c at *;refine bl (f := 147) Tryz.func147 rfl rfl rfl rfl ?_;(refine cc ?_)
 ((refine bd rfl (a8 rfl aL) ?_))
 exact ah.aS.refl _
theorem QC {m n : Int} {r : Bool} (ap : decide (same m n) = r) : aH ag 127 [aE m, aE n] (bk r) := by
 have cs : (m > 0 ∧ n > 0 ∧ r = true) ∨ (m > 0 ∧ ¬ n > 0 ∧ ¬ m < 0 ∧ r = false) ∨ (¬ m > 0 ∧ m < 0 ∧ n < 0 ∧ r = true) ∨ (¬ m > 0 ∧ m < 0 ∧ ¬ n < 0 ∧ r = false) ∨ (¬ m > 0 ∧ ¬ m < 0 ∧ r = false) := by
  rw [← ap];unfold same
  by_cases h1 : m > 0 <;> by_cases h2 : n > 0 <;> by_cases ao : m < 0 <;> by_cases aD : n < 0 <;> simp [h1, h2, ao, aD] <;> omega
 clear ap;rcases cs with ⟨q1, q2, rfl⟩ | ⟨q1, q2, bR, rfl⟩ | ⟨q1, q2, bR, rfl⟩ | ⟨q1, q2, bR, rfl⟩ | ⟨q1, q2, rfl⟩
 all_goals
  refine bl (f := 127) Tryz.func127 rfl rfl rfl rfl ?_;(repeat first | refine eA ?_ | (with_reducible apply cg (c := true)); rfl; rfl; (exact bZ (by omega)) | (with_reducible apply cg (c := false)); rfl; rfl; (exact cp (by omega)))
  ((refine bd rfl (a8 rfl aL) ?_))
  first | exact ah.aS.refl _ | exact ah.aS.of_eq (by rw [bZ q2]; rfl) | exact ah.aS.of_eq (by rw [bZ bR]; rfl) | exact ah.aS.of_eq (by rw [cp bR]; rfl)
theorem Bj {x A : Int} (h1 : -134217728 ≤ x) (h2 : x ≤ 134217728) (ao : -144115188075855872 ≤ A) (aD : A ≤ 144115188075855872) : -19342813113834066795298816 ≤ x * A ∧ x * A ≤ 19342813113834066795298816 := by
 have := H2 h1 h2 ao aD;omega
theorem QK {l h A B n d : Int} (bU : A ≠ B) (qS : -134217728 ≤ l) (l1 : l ≤ 134217728) (az : -134217728 ≤ h) (h1 : h ≤ 134217728) (bK : -144115188075855872 ≤ A) (gB : A ≤ 144115188075855872) (bw : -144115188075855872 ≤ B) (nG : B ≤ 144115188075855872) (ax : jt (h * A - l * B) (A - B) = n) (hd : iA (A - B) = d) : aH ag 128 [aE l, aE h, aE A, aE B] (fv n d) := by
 have b1 := Bj az h1 bK gB;have b2 := Bj qS l1 bw nG;have rz := QJ (n := h) (m := A) (by omega) (by omega) (by omega) (by omega);have x7 := QJ (n := l) (m := B) (by omega) (by omega) (by omega) (by omega);have f1 : fits (h * A) = true := by unfold fits; rw [b4]; omega
 have f2 : fits (l * B) = true := by unfold fits; rw [b4]; omega
 have f3 : fits (h * A - l * B) = true := by unfold fits; rw [b4]; omega
 have f4 : fits (A - B) = true := by unfold fits; rw [b4]; omega
 have TZ := QI f1 f2;have T0 := tP (n := A - B) (by omega) (by omega);simp only [wf, f3, if_true] at TZ
 have T1 : aH ag 151 [fZ (h * A - l * B), fZ (A - B)] (.cn [BK n d, .one (.c (.bool true))]) := by
  by_cases q : A - B < 0
  ·unfold jt at ax;unfold iA at hd;rw [if_pos q] at ax hd;have g1 : fits (-(h * A - l * B)) = true := by unfold fits; rw [b4]; omega
   have g2 : fits (-(A - B)) = true := by unfold fits; rw [b4]; omega
   exact acZ f3 f4 q (s := true) (by rw [g1, g2]; rfl) (by rw [if_pos rfl, ax]) (by rw [if_pos rfl, hd])
  ·unfold jt at ax;unfold iA at hd;rw [if_neg q] at ax hd;have := ac0 f3 f4 (by omega);rw [ax, hd] at this;rw [ax, hd];exact this
 obtain ⟨D, eG⟩ : ∃ D, A - B = D := ⟨_, rfl⟩;have w1 : IntKind.i64.wrap (A - B) = D := by rw [← eG]; exact mw (by omega)
 rw [eG] at T0 T1;clear f1 f2 f3 f4 b1 b2 ax hd eG bK gB bw nG bU;generalize h * A - l * B = X at *;generalize h * A = Y at *;generalize l * B = Z at *;refine bl (f := 128) Tryz.func128 rfl rfl rfl rfl ?_;(refine cc ?_)
 ((refine bd rfl (cL rfl rfl rfl aL) ?_))
 exact ah.aS.refl _
instance ai4 : ED ag 150 0 0 false 1 := ⟨by kernel_rfl⟩
abbrev ag7 (k n d m e p1 p2 q1 q2 : Int) : ah := .w (.agg [.c (.int .i64 k), .c (.int .i64 (b5 n)), .c (.int .u64 (dB n)), .c (.int .i64 (b5 d)), .c (.int .u64 (dB d)), .c (.int .i64 (b5 m)), .c (.int .u64 (dB m)), .c (.int .i64 (b5 e)), .c (.int .u64 (dB e)), .c (.int .i64 p1), .c (.int .i64 p2), .c (.int .i64 q1), .c (.int .i64 q2)])
abbrev om (M : fz) : ah := ag7 M.k M.n M.d M.m M.e M.p1 M.p2 M.q1 M.q2
theorem ZS {s1 s2 bN bO t1 t2 t3 t4 f1 f2 g1 g2 cA cR jk qg : Int} {p q : Bool} {M : fz}
  (JV : aH ag 145 [aZ s1 s2, aZ t1 t2] (.cn [.agg [.c (.int .i64 cA), .c (.int .i64 cR)], .agg [.c (.int .i64 f1), .c (.int .i64 f2)]]))
  (JW : aH ag 145 [aZ bN bO, aZ t3 t4] (.cn [.agg [.c (.int .i64 g1), .c (.int .i64 g2)], .agg [.c (.int .i64 jk), .c (.int .i64 qg)]]))
  (H1 : aH ag 147 [jg s1 s2 bN bO, aZ f1 f2] (bk p)) (cW : aH ag 147 [jg t1 t2 t3 t4, aZ f1 f2] (bk q))
  (mR : aH ag 148 [aE f1] (fv f1 1)) (sJ : aH ag 148 [aE f2] (fv f2 1))
  (gw : (if (p && q) = true then ve f1 f2 g1 g2 else hU) = M) : aH ag 126 [jg s1 s2 bN bO, jg t1 t2 t3 t4] (om M) := by
 unfold ve at gw;have hp : (f1 = g1 ∧ f2 = g2) ↔ c7 f1 f2 g1 g2 = true := mX.symm
 have cs : (p = false ∧ M = hU) ∨ (p = true ∧ q = false ∧ M = hU) ∨ (p = true ∧ q = true ∧ c7 f1 f2 g1 g2 = true ∧ M = jc f1 1 f2 1) ∨ (p = true ∧ q = true ∧ c7 f1 f2 g1 g2 = false ∧ M = sR f1 f2 g1 g2) := by
  rw [← gw];cases an : c7 f1 f2 g1 g2 <;> rw [an] at hp <;> cases p <;> cases q <;> simp [hp]
 clear gw hp;refine bl (f := 126) Tryz.func126 rfl rfl rfl rfl ?_;(refine cc ?_);clear JV JW;rcases cs with ⟨rfl, rfl⟩ | ⟨rfl, rfl, rfl⟩ | ⟨rfl, rfl, h, rfl⟩ | ⟨rfl, rfl, h, rfl⟩
 all_goals
  (refine cc ?_)
  ((refine bd rfl (cL rfl rfl rfl aL) ?_))
  first | exact ah.aS.refl _ | exact ah.aS.of_eq (by simp only [hU, wR, w9]; rfl) | exact ah.aS.of_eq (by simp only [sR, wR, w9]; rfl)
theorem IC {a1 a2 b1 b2 : Int} (h : b7 a1 a2 = true) (k : b7 b1 b2 = true) : b7 (ep a1 a2 b1 b2) (ea a1 a2 b1 b2) = true := by
 rcases np a1 a2 b1 b2 with ⟨_, _, ao, aD, _⟩ | ⟨_, _, ao, aD, _⟩ <;> rw [ao, aD] <;> assumption
theorem Rn {a1 a2 b1 b2 : Int} (h : b7 a1 a2 = true) (k : b7 b1 b2 = true) : b7 (eH a1 a2 b1 b2) (en a1 a2 b1 b2) = true := by
 rcases np a1 a2 b1 b2 with ⟨ao, aD, _⟩ | ⟨ao, aD, _⟩ <;> rw [ao, aD] <;> assumption
theorem adP {s1 s2 bN bO t1 t2 t3 t4 : Int} (h1 : b7 s1 s2 = true) (h2 : b7 bN bO = true) (ao : b7 t1 t2 = true) (aD : b7 t3 t4 = true) : aH ag 126 [jg s1 s2 bN bO, jg t1 t2 t3 t4] (om (inl s1 s2 bN bO t1 t2 t3 t4)) := by
 have au := IC h1 ao;have ab := oh.1 au;refine ZS Ik Ik (Qo (k6 h1) (k6 h2) (k6 au)) (Qo (k6 ao) (k6 aD) (k6 au)) (Qj (by omega) (by omega)) (Qj (by omega) (by omega)) ?_;unfold inl;exact zv (by rw [c5, b4, b4])
theorem adu {a1 a2 b1 b2 c1 c2 d1 d2 : Int} (h : (b7 a1 a2 && b7 b1 b2 && b7 c1 c2 && b7 d1 d2) = false) : aH ag 93 [aZ a1 a2, aZ b1 b2, aZ c1 c2, aZ d1 d2] (om hU) := by
 have bh := oX (x := a1) (y := a2) rfl;have fk := oX (x := b1) (y := b2) rfl;have j4 := oX (x := c1) (y := c2) rfl;have x0 := oX (x := d1) (y := d2) rfl
 have cs : b7 a1 a2 = false ∨ (b7 a1 a2 = true ∧ b7 b1 b2 = false) ∨ (b7 a1 a2 = true ∧ b7 b1 b2 = true ∧ b7 c1 c2 = false) ∨ (b7 a1 a2 = true ∧ b7 b1 b2 = true ∧ b7 c1 c2 = true ∧ b7 d1 d2 = false) := by
  generalize b7 a1 a2 = cx at *;generalize b7 b1 b2 = dF at *;generalize b7 c1 c2 = gA at *;generalize b7 d1 d2 = ma at *;cases cx <;> cases dF <;> cases gA <;> cases ma <;> simp_all
 clear h;rcases cs with h1 | ⟨h1, h2⟩ | ⟨h1, h2, ao⟩ | ⟨h1, h2, ao, aD⟩ <;> simp only [*] at bh fk j4 x0
 all_goals
  refine bl (f := 93) Tryz.func93 rfl rfl rfl rfl ?_;(refine cc ?_)
  ((refine bd rfl (cL rfl rfl rfl aL) ?_))
  exact ah.aS.of_eq (by simp only [hU, wR, w9]; rfl)
theorem V3 {a1 a2 b1 b2 c1 c2 d1 d2 s1 s2 bN bO t1 t2 t3 t4 A B C D n d m e : Int} {x y : Bool} {I M : fz}
  (bh : aH ag 123 [aZ a1 a2] (bk true)) (fk : aH ag 123 [aZ b1 b2] (bk true)) (j4 : aH ag 123 [aZ c1 c2] (bk true)) (x0 : aH ag 123 [aZ d1 d2] (bk true))
  (nG : aH ag 124 [aZ a1 a2, aZ b1 b2] (jg s1 s2 bN bO)) (sH : aH ag 124 [aZ c1 c2, aZ d1 d2] (jg t1 t2 t3 t4))
  (dM : aH ag 125 [jg s1 s2 bN bO, aZ t1 t2] (aE A)) (fK : aH ag 125 [jg s1 s2 bN bO, aZ t3 t4] (aE B))
  (ru : aH ag 125 [jg t1 t2 t3 t4, aZ s1 s2] (aE C)) (x5 : aH ag 125 [jg t1 t2 t3 t4, aZ bN bO] (aE D))
  (AX : aH ag 127 [aE A, aE B] (bk x)) (xW : aH ag 127 [aE C, aE D] (bk y))
  (L : aH ag 126 [jg s1 s2 bN bO, jg t1 t2 t3 t4] (om I))
  (ya : A ≠ B → aH ag 128 [aE t1, aE t3, aE A, aE B] (fv n d)) (yb : A ≠ B → aH ag 128 [aE t2, aE t4, aE A, aE B] (fv m e))
  (gw : (if A = B then I else if (x || y) = true then hU else jc n d m e) = M) : aH ag 93 [aZ a1 a2, aZ b1 b2, aZ c1 c2, aZ d1 d2] (om M) := by
 have cs : (A = B ∧ M = I) ∨ (¬ A = B ∧ x = true ∧ M = hU) ∨ (¬ A = B ∧ x = false ∧ y = true ∧ M = hU) ∨ (¬ A = B ∧ x = false ∧ y = false ∧ M = jc n d m e) := by
  rw [← gw]
  by_cases h : A = B
  ·simp [h]
  ·cases x <;> cases y <;> simp [h]
 clear gw;refine bl (f := 93) Tryz.func93 rfl rfl rfl rfl ?_;(refine cc ?_);clear bh fk j4 x0 nG sH dM fK;rcases cs with ⟨h, rfl⟩ | ⟨h, rfl, rfl⟩ | ⟨h, rfl, rfl, rfl⟩ | ⟨h, rfl, rfl, rfl⟩
 ·clear ya yb;(refine cc ?_)
  ((refine bd rfl (cL rfl rfl rfl aL) ?_))
  exact ah.aS.refl _
 ·clear ya yb;(refine cc ?_)
  ((refine bd rfl (cL rfl rfl rfl aL) ?_))
  exact ah.aS.of_eq (by simp only [hU, wR, w9]; rfl)
 ·clear ya yb;(refine cc ?_)
  ((refine bd rfl (cL rfl rfl rfl aL) ?_))
  exact ah.aS.of_eq (by simp only [hU, wR, w9]; rfl)
 ·have ahE := ya h;have ahF := yb h;clear ya yb;(refine cc ?_)
  ((refine bd rfl (cL rfl rfl rfl aL) ?_))
  exact ah.aS.refl _
theorem De {x y : Int} (h1 : -268435456 ≤ x) (h2 : x ≤ 268435456) (ao : -268435456 ≤ y) (aD : y ≤ 268435456) : -72057594037927936 ≤ x * y ∧ x * y ≤ 72057594037927936 := by
 have := H2 h1 h2 ao aD;omega
theorem LJ {o1 o2 a1 a2 b1 b2 : Int} (h1 : b7 o1 o2 = true) (h2 : b7 a1 a2 = true) (ao : b7 b1 b2 = true) : -144115188075855872 ≤ b0 o1 o2 a1 a2 b1 b2 ∧ b0 o1 o2 a1 a2 b1 b2 ≤ 144115188075855872 := by
 rw [oh] at h1 h2 ao;have m1 := De (x := a1 - o1) (y := b2 - o2) (by omega) (by omega) (by omega) (by omega);have m2 := De (x := a2 - o2) (y := b1 - o1) (by omega) (by omega) (by omega) (by omega);unfold b0;omega
def qW (a1 a2 b1 b2 c1 c2 d1 d2 : Int) : fz := if (b7 a1 a2 && b7 b1 b2 && b7 c1 c2 && b7 d1 d2) = true then ih a1 a2 b1 b2 c1 c2 d1 d2 else hU
theorem adv {a1 a2 b1 b2 c1 c2 d1 d2 : Int} (aJ : b7 a1 a2 = true) (ab : b7 b1 b2 = true) (al : b7 c1 c2 = true) (hd : b7 d1 d2 = true) : aH ag 93 [aZ a1 a2, aZ b1 b2, aZ c1 c2, aZ d1 d2] (om (ih a1 a2 b1 b2 c1 c2 d1 d2)) := by
 have bh := oX aJ;have fk := oX ab;have j4 := oX al;have x0 := oX hd;have nG := DC (a1 := a1) (a2 := a2) (b1 := b1) (b2 := b2);have sH := DC (a1 := c1) (a2 := c2) (b1 := d1) (b2 := d2);have q1 := Rn aJ ab;have q2 := IC aJ ab;have bR := Rn al hd;have dD := IC al hd;have l1 := w7 a1 a2 b1 b2;have l2 := w7 c1 c2 d1 d2;rw [← abm];generalize eH a1 a2 b1 b2 = s1 at *;generalize en a1 a2 b1 b2 = s2 at *;generalize ep a1 a2 b1 b2 = bN at *;generalize ea a1 a2 b1 b2 = bO at *;generalize eH c1 c2 d1 d2 = t1 at *;generalize en c1 c2 d1 d2 = t2 at *;generalize ep c1 c2 d1 d2 = t3 at *;generalize ea c1 c2 d1 d2 = t4 at *;have bn := LJ q1 q2 bR;have bY := LJ q1 q2 dD;have i3 := oh.1 bR;have i4 := oh.1 dD
 refine V3 bh fk j4 x0 nG sH (DB (k6 q1) (k6 q2) (k6 bR)) (DB (k6 q1) (k6 q2) (k6 dD)) (DB (k6 bR) (k6 dD) (k6 q1)) (DB (k6 bR) (k6 dD) (k6 q2)) (QC rfl) (QC rfl) (adP q1 q2 bR dD)
  (fun bU => QK bU i3.1.1 i3.1.2 i4.1.1 i4.1.2 bn.1 bn.2 bY.1 bY.2 rfl rfl) (fun bU => QK bU i3.2.1 i3.2.2 i4.2.1 i4.2.2 bn.1 bn.2 bY.1 bY.2 rfl rfl) ?_
 rw [← abl l1 l2];unfold HQ
 by_cases h : b0 s1 s2 bN bO t1 t2 = b0 s1 s2 bN bO t3 t4
 ·rw [if_pos h, if_pos h]
 ·rw [if_neg h, if_neg h];exact zv (by rw [so, b4, b4])
theorem Ii {a1 a2 b1 b2 c1 c2 d1 d2 : Int} : aH ag 93 [aZ a1 a2, aZ b1 b2, aZ c1 c2, aZ d1 d2] (om (qW a1 a2 b1 b2 c1 c2 d1 d2)) := by
 unfold qW
 by_cases h : (b7 a1 a2 && b7 b1 b2 && b7 c1 c2 && b7 d1 d2) = true
 ·rw [if_pos h];simp only [c5] at h;exact adv h.1.1.1 h.1.1.2 h.1.2 h.2
 ·rw [if_neg h];exact adu (by simpa using h)
def FO (M : fz) (a1 a2 b1 b2 c1 c2 d1 d2 : Int) : Bool :=
 if M.k = 1 then c7 a1 a2 c1 c2 || c7 a1 a2 d1 d2 || c7 b1 b2 c1 c2 || c7 b1 b2 d1 d2
 else if M.k = 2 then uM (eH a1 a2 b1 b2) (en a1 a2 b1 b2) (ep a1 a2 b1 b2) (ea a1 a2 b1 b2) (eH c1 c2 d1 d2) (en c1 c2 d1 d2) (ep c1 c2 d1 d2) (ea c1 c2 d1 d2)
 else true
theorem VF {a1 a2 b1 b2 c1 c2 d1 d2 s1 s2 bN bO t1 t2 t3 t4 : Int} {M : fz} {r : Bool} (aW : aH ag 93 [aZ a1 a2, aZ b1 b2, aZ c1 c2, aZ d1 d2] (om M))
  (nG : aH ag 124 [aZ a1 a2, aZ b1 b2] (jg s1 s2 bN bO)) (sH : aH ag 124 [aZ c1 c2, aZ d1 d2] (jg t1 t2 t3 t4))
  (ap : (if M.k = 1 then c7 a1 a2 c1 c2 || c7 a1 a2 d1 d2 || c7 b1 b2 c1 c2 || c7 b1 b2 d1 d2 else if M.k = 2 then uM s1 s2 bN bO t1 t2 t3 t4 else true) = r) : aH ag 138 [aZ a1 a2, aZ b1 b2, aZ c1 c2, aZ d1 d2] (bk r) := by
 obtain ⟨k, n, d, m, e, p1, p2, q1, q2⟩ := M;simp only at ap aW
 have cs : (k = 1 ∧ c7 a1 a2 c1 c2 = true ∧ r = true) ∨ (k = 1 ∧ c7 a1 a2 c1 c2 = false ∧ c7 a1 a2 d1 d2 = true ∧ r = true) ∨ (k = 1 ∧ c7 a1 a2 c1 c2 = false ∧ c7 a1 a2 d1 d2 = false ∧ c7 b1 b2 c1 c2 = true ∧ r = true) ∨ (k = 1 ∧ c7 a1 a2 c1 c2 = false ∧ c7 a1 a2 d1 d2 = false ∧ c7 b1 b2 c1 c2 = false ∧ r = c7 b1 b2 d1 d2) ∨ (¬ k = 1 ∧ k = 2 ∧ r = uM s1 s2 bN bO t1 t2 t3 t4) ∨ (¬ k = 1 ∧ ¬ k = 2 ∧ r = true) := by
  rw [← ap]
  by_cases h1 : k = 1
  ·rw [if_pos h1];cases c7 a1 a2 c1 c2 <;> cases c7 a1 a2 d1 d2 <;> cases c7 b1 b2 c1 c2 <;> simp [h1]
  ·rw [if_neg h1]
   by_cases h2 : k = 2
   ·rw [if_pos h2]; simp [h2]
   ·rw [if_neg h2]; simp [h1, h2]
 clear ap;refine bl (f := 138) Tryz.func138 rfl rfl rfl rfl ?_;(refine cc ?_);clear aW;rcases cs with ⟨h1, h2, rfl⟩ | ⟨h1, h2, ao, rfl⟩ | ⟨h1, h2, ao, aD, rfl⟩ | ⟨h1, h2, ao, aD, rfl⟩ | ⟨h1, h2, rfl⟩ | ⟨h1, h2, rfl⟩
 all_goals
  (repeat first | refine eA ?_ | refine fi ?_ | (with_reducible apply cg (c := true)); rfl; rfl; (assumption) | (with_reducible apply cg (c := false)); rfl; rfl; (assumption))
  ((refine bd rfl (a8 rfl aL) ?_))
  first | exact ah.aS.refl _ | exact ah.aS.of_eq (by rw [h2]; rfl) | exact ah.aS.of_eq (by rw [ao]; rfl) | exact ah.aS.of_eq (by rw [aD]; rfl)
theorem adt {a1 a2 b1 b2 c1 c2 d1 d2 : Int} : aH ag 138 [aZ a1 a2, aZ b1 b2, aZ c1 c2, aZ d1 d2] (bk (FO (qW a1 a2 b1 b2 c1 c2 d1 d2) a1 a2 b1 b2 c1 c2 d1 d2)) :=
 VF Ii DC DC rfl
end Go.Proofs.YtbcecodakfejaaaGreat
namespace Go.Proofs.YtbcecodakfejaaaGreat.bq
abbrev bT := aj × aj
def kE (r : Nat) (p : aj) : aj := (bB p.1 r, bB p.2 r)
abbrev kq : bT := ((0, 0), (0, 0))
def hl (a b : bT) : fz := ih a.1.1 a.1.2 a.2.1 a.2.2 b.1.1 b.1.2 b.2.1 b.2.2
def s5 (a b : bT) : Bool := FO (hl a b) a.1.1 a.1.2 a.2.1 a.2.2 b.1.1 b.1.2 b.2.1 b.2.2
def iC (r : Nat) (M : fz) : aj := (gi (2 ^ r) M.n M.d, gi (2 ^ r) M.m M.e)
def yq (r : Nat) (p : aj) : aj := (2 ^ r * p.1, 2 ^ r * p.2)
def gv (r : Nat) (l : aj × aj) : bT := (yq r l.1, yq r l.2)
def Np (r : Nat) (p q x : aj) : Bool := qX (2 ^ r * p.1) (2 ^ r * p.2) (2 ^ r * q.1) (2 ^ r * q.2) r x
def fJ (p q : aj) (l : List aj) : List aj := rp (decide (q.1 < p.1)) (decide (q.2 < p.2)) (fun _ => true) l
def rI (r : Nat) (l m : aj × aj) : Option aj := if (hl (gv r l) (gv r m)).k = 1 ∧ s5 (gv r l) (gv r m) = false then some (iC r (hl (gv r l) (gv r m))) else none
def zS (r : Nat) (a b : bT) : Option aj := if (hl a b).k = 1 then some (iC r (hl a b)) else none
def q6 (E : List bT) (r R : Nat) : cP aj where
 Ck := Np r
 gN := fJ
 cut := rI r
 n := E.length
 P i := kE r (E.getD i kq).1
 Q i := kE r (E.getD i kq).2
 tR i j := zS r (E.getD i kq) (E.getD j kq)
 R := R
 gT x := dd r x.1 x.2 = true
def gg (p : aj) : Bool := decide (-134217728 ≤ p.1) && decide (p.1 < 134217728) && decide (-134217728 ≤ p.2) && decide (p.2 < 134217728)
def gK (E : List bT) : Bool := E.all fun e => gg e.1 && gg e.2
theorem pX {p : aj} : gg p = true ↔ ((-134217728 ≤ p.1 ∧ p.1 < 134217728) ∧ -134217728 ≤ p.2 ∧ p.2 < 134217728) := by
 unfold gg; simp only [c5, b4]; omega
theorem oS {E : List bT} (h : gK E = true) (i : Nat) : gg (E.getD i kq).1 = true ∧ gg (E.getD i kq).2 = true := by
 rw [fX];cases he : E[i]? with
 | none => exact ⟨by decide, by decide⟩
 | some e =>
  have := b6.1 h e (cV he);exact Bool.and_eq_true_iff.1 this
theorem BV (v : Int) (r : Nat) : bB v r = gi (2 ^ r) v 1 := by
 unfold bB gi; rw [Int.mul_one]
theorem Rd {S X W uD bf : Int} (hS : 0 < S) (dV : 0 < W) (yN : 0 < bf) (h : X * bf ≤ uD * W) : gi S X W ≤ gi S uD bf := by
 obtain ⟨a1, a2⟩ := DM hS dV X;obtain ⟨b1, b2⟩ := DM hS yN uD;generalize gi S X W = g at *;generalize gi S uD bf = jn at *;refine Int.not_lt.1 fun bb => ?_;have h1 : S * (jn + 1) ≤ S * g := od bb (by omega);rw [Int.mul_add, Int.mul_one] at h1;generalize S * g = G at *;generalize S * jn = vO at *;have c1 : (2 * vO + S) * W ≤ (2 * G - S) * W := nA (by omega) (by omega);have c2 : (2 * vO + S) * W ≤ 2 * X := by omega
 have hf : (2 * vO + S) * W * bf ≤ 2 * X * bf := nA c2 (by omega);have nS : 2 * uD * W < (2 * vO + S) * bf * W := Int.mul_lt_mul_of_pos_right b2 dV;have aF : (2 * vO + S) * W * bf = (2 * vO + S) * bf * W := by rw [ki, iq W, ← ki]
 have aP : 2 * X * bf = 2 * (X * bf) := ki ..;have cr : 2 * uD * W = 2 * (uD * W) := ki ..;omega
theorem Az {m lo hi x : Int} (h1 : wi m lo = true) (h2 : wi m hi = true) (ao : lo ≤ x) (aD : x ≤ hi) : wi m x = true := by
 unfold wi at *; simp only [c5, b4] at *; omega
theorem Xb {r : Nat} (ap : r ≤ 28) : wi (134217728 / 2 ^ r) (bB (-134217728) r) = true ∧ wi (134217728 / 2 ^ r) (bB 134217727 r) = true := by
 have : r = 0 ∨ r = 1 ∨ r = 2 ∨ r = 3 ∨ r = 4 ∨ r = 5 ∨ r = 6 ∨ r = 7 ∨ r = 8 ∨ r = 9 ∨ r = 10 ∨ r = 11 ∨ r = 12 ∨ r = 13 ∨ r = 14 ∨ r = 15 ∨ r = 16 ∨ r = 17 ∨ r = 18 ∨ r = 19 ∨ r = 20 ∨ r = 21 ∨ r = 22 ∨ r = 23 ∨ r = 24 ∨ r = 25 ∨ r = 26 ∨ r = 27 ∨ r = 28 := by omega
 rcases this with rfl | rfl | rfl | rfl | rfl | rfl | rfl | rfl | rfl | rfl | rfl | rfl | rfl | rfl | rfl | rfl | rfl | rfl | rfl | rfl | rfl | rfl | rfl | rfl | rfl | rfl | rfl | rfl | rfl <;> exact ⟨by decide, by decide⟩
theorem DN {r : Nat} (ap : r ≤ 28) {X W : Int} (dV : 0 < W) (h1 : -134217728 * W ≤ X) (h2 : X ≤ 134217727 * W) : wi (134217728 / 2 ^ r) (gi (2 ^ r) X W) = true := by
 have hS : (0 : Int) < 2 ^ r := gp (by decide);have g := Xb ap;rw [BV, BV] at g;exact Az g.1 g.2 (Rd hS (by decide) dV (by omega)) (Rd hS dV (by decide) (by omega))
theorem Di {r : Nat} (ap : r ≤ 28) {p : aj} (h : gg p = true) : dd r (kE r p).1 (kE r p).2 = true := by
 have h := pX.1 h;unfold dd kE;rw [BV, BV, DN ap (by decide) (by omega) (by omega), DN ap (by decide) (by omega) (by omega)]; rfl
theorem HH {a b : bT} (h : (hl a b).k = 1) : ∃ X Y W bf, hl a b = jc X W Y bf := by
 unfold hl ih at h ⊢
 split at h
 ·rename_i hw;rw [if_pos hw];unfold vf inl at h ⊢
  split at h
  ·rename_i G6;rw [if_pos G6];unfold ve at h ⊢
   split at h
   ·rename_i he;rw [if_pos he]; exact ⟨_, _, _, _, rfl⟩
   ·simp [sR] at h
  ·simp [hU] at h
 ·rename_i hw;rw [if_neg hw];unfold mB tC at h ⊢
  split at h
  ·rename_i au;rw [if_pos au]; exact ⟨_, _, _, _, rfl⟩
  ·simp [hU] at h
theorem WR {a b : bT} (h : (hl a b).k = 1) : s5 a b = true ↔ (a.1 = b.1 ∨ a.1 = b.2 ∨ a.2 = b.1 ∨ a.2 = b.2) := by
 have e : ∀ p q : aj, c7 p.1 p.2 q.1 q.2 = true ↔ p = q := fun p q => by rw [mX, Prod.ext_iff]
 unfold s5 FO;rw [if_pos h];simp only [so, e, or_assoc]
theorem VQ {r : Nat} {p q : aj} : yq r p = yq r q ↔ p = q := by
 have hS : (2 : Int) ^ r ≠ 0 := by have : (0 : Int) < 2 ^ r := gp (by decide); omega
 unfold yq;rw [Prod.ext_iff, Prod.ext_iff];exact ⟨fun ⟨h1, h2⟩ => ⟨Int.eq_of_mul_eq_mul_left hS h1, Int.eq_of_mul_eq_mul_left hS h2⟩, fun ⟨h1, h2⟩ => ⟨by rw [h1], by rw [h2]⟩⟩
theorem Me {r : Nat} {l m : aj × aj} (h : (hl (gv r l) (gv r m)).k = 1) : s5 (gv r l) (gv r m) = true ↔ x6 l m := by
 rw [WR h]; unfold gv x6; simp only [VQ]
theorem Iw {r : Nat} {a b : bT} {X Y W bf : Int} (e : hl a b = jc X W Y bf) : bf = W ∧ 0 < W ∧ iC r (hl a b) = (gi (2 ^ r) X W, gi (2 ^ r) Y W) ∧ AV (2 ^ r) X Y W (iC r (hl a b)) := by
 obtain ⟨h1, h2, _⟩ := C8 e;have hS : (0 : Int) < 2 ^ r := gp (by decide);have aP : iC r (hl a b) = (gi (2 ^ r) X W, gi (2 ^ r) Y W) := by rw [e]; unfold iC jc; rw [h1]
 exact ⟨h1, h2, aP, by rw [aP]; exact ZT hS h2⟩
theorem qD {r : Nat} {p : aj} (h : dd r p.1 p.2 = true) : b7 (2 ^ r * p.1) (2 ^ r * p.2) = true := by
 have h := (CK r _ _).1 h;unfold b7; simp only [c5, b4]; omega
theorem afv (E : List bT) {r : Nat} (ap : r ≤ 28) (R : Nat) : x3 (2 ^ r) (q6 E r R) where
 pos := gp (by decide)
 YS p q x h := by
  have h : qX _ _ _ _ _ _ = true := h;unfold qX at h;rw [GL ap, HP] at h;exact h.2.2
 Nn p q x hp an aa h := by
  show qX _ _ _ _ _ _ = true;unfold qX;have aa : dd r x.1 x.2 = true := aa;have kA := (CK r _ _).1 aa;have aju := DK ap;rw [GL ap, HP, abh];refine ⟨aa, ⟨qD hp, qD an, ?_, ?_, rfl⟩, h⟩
  ·rw [Bu]; omega
  ·rw [Bu]; omega
 LM l m x h := by
  have h : rI r l m = some x := h;unfold rI at h
  split at h
  ·rename_i af;cases h;obtain ⟨X, Y, W, bf, e⟩ := HH af.1;refine ⟨fun hs => ?_, X, Y, W, bf, e, (Iw e).2.2.2⟩;have := (Me af.1).2 hs;rw [af.2] at this; cases this
  ·cases h
 Wc l m _ _ _ _ h af := by
  have h : rI r l m = none := h;unfold rI at h
  split at h
  ·cases h
  ·rename_i ax;refine (Me af).1 ?_;cases he : s5 (gv r l) (gv r m) with
   | true => rfl
   | false => exact absurd ⟨af, he⟩ ax
def vA (r : Nat) (V : List aj) (D : List Int) : Prop :=
 V ≠ [] ∧ V.length = D.length + 1 ∧ (∀ v ∈ V, dd r v.1 v.2 = true) ∧ fM (· ≠ ·) V ∧ (fM (fun p q => p.1 ≤ q.1) V ∨ fM (fun p q => q.1 ≤ p.1) V) ∧ (fM (fun p q => p.2 ≤ q.2) V ∨ fM (fun p q => q.2 ≤ p.2) V)
theorem Fq {R T : aj → aj → Prop} : ∀ {l : List aj}, fM R l → fM T l → fM (fun p q => R p q ∧ T p q) l
 | [], _, _ => trivial
 | [_], _, _ => trivial
 | p :: q :: W, h, aK => ⟨⟨h.1, aK.1⟩, Fq (l := q :: W) h.2 aK.2⟩
theorem Lx {R : aj → aj → Prop} (aB : ∀ a b c, R a b → R b c → R a c) : ∀ {l : List aj}, fM R l → l.Pairwise R
 | [], _ => .nil
 | [_], _ => by simp
 | p :: q :: W, h => by
  have bI := Lx aB (l := q :: W) h.2;refine ir.2 ⟨fun x aa => ?_, bI⟩;rcases gj.1 aa with rfl | aa
  ·exact h.1
  ·exact aB _ _ _ h.1 ((ir.1 bI).1 x aa)
theorem Bp {R T : aj → aj → Prop} (h1 : ∀ a b c, R a b → R b c → R a c) (h2 : ∀ a b c, T a b → T b c → T a c) (aJ : ∀ a b, R a b → R b a → T a b → T b a → a = b) {l : List aj} (ap : fM R l) (aB : fM T l) (ax : fM (· ≠ ·) l) : l.Nodup := by
 have := Lx (R := fun p q => (R p q ∧ T p q) ∧ p ≠ q) (fun a b c x y => ⟨⟨h1 _ _ _ x.1.1 y.1.1, h2 _ _ _ x.1.2 y.1.2⟩, fun e => by subst e; exact x.2 (aJ _ _ x.1.1 y.1.1 x.1.2 y.1.2)⟩) (Fq (Fq ap aB) ax);exact this.imp fun h => h.2
theorem vA.nodup {r : Nat} {V : List aj} {D : List Int} (h : vA r V D) : V.Nodup := by
 obtain ⟨_, _, _, ax, aa, ai⟩ := h;rcases aa with aa | aa <;> rcases ai with ai | ai
 ·exact Bp (R := fun p q : aj => p.1 ≤ q.1) (T := fun p q : aj => p.2 ≤ q.2) (fun a b c => Int.le_trans) (fun a b c => Int.le_trans) (fun a b h1 h2 ao aD => Prod.ext (Int.le_antisymm h1 h2) (Int.le_antisymm ao aD)) aa ai ax
 ·exact Bp (R := fun p q : aj => p.1 ≤ q.1) (T := fun p q : aj => q.2 ≤ p.2) (fun a b c => Int.le_trans) (fun a b c h aK => Int.le_trans aK h) (fun a b h1 h2 ao aD => Prod.ext (Int.le_antisymm h1 h2) (Int.le_antisymm aD ao)) aa ai ax
 ·exact Bp (R := fun p q : aj => q.1 ≤ p.1) (T := fun p q : aj => p.2 ≤ q.2) (fun a b c h aK => Int.le_trans aK h) (fun a b c => Int.le_trans) (fun a b h1 h2 ao aD => Prod.ext (Int.le_antisymm h2 h1) (Int.le_antisymm ao aD)) aa ai ax
 ·exact Bp (R := fun p q : aj => q.1 ≤ p.1) (T := fun p q : aj => q.2 ≤ p.2) (fun a b c h aK => Int.le_trans aK h) (fun a b c h aK => Int.le_trans aK h) (fun a b h1 h2 ao aD => Prod.ext (Int.le_antisymm h2 h1) (Int.le_antisymm aD ao)) aa ai ax
theorem BM (r : Nat) (a b : Int) : decide ((2 : Int) ^ r * a < 2 ^ r * b) = decide (a < b) := by
 have hS : (0 : Int) < 2 ^ r := gp (by decide);rw [tV];exact ⟨fun h => Int.lt_of_mul_lt_mul_left h (by omega), fun h => Int.mul_lt_mul_of_pos_left h hS⟩
theorem LW {fx fy : Bool} {p q : aj} : ∀ (l out : List aj), (∀ x ∈ l, x ≠ p ∧ x ≠ q) → (out ++ l).Nodup → l.foldl (pB p q) out = out ++ l
 | [], out, _, _ => by simp
 | x :: l, out, h, hd => by
  have aa := h x (jd ..);have e : pB p q out x = out ++ [x] := if_pos ⟨aa.1, aa.2, fun he => (List.nodup_append.1 hd).2.2 x (List.mem_of_getLast? he) x (jd ..) rfl⟩;rw [p5, e, LW (fx := fx) (fy := fy) l (out ++ [x]) (fun y ai => h y (k5 _ ai)) (by simpa using hd), im]; rfl
theorem agr {fx fy : Bool} {f g : aj → Bool} {l : List aj} (h : ∀ x ∈ l, f x = g x) : rp fx fy f l = rp fx fy g l := by
 unfold rp
 have key : ∀ (l out : List aj), (∀ x ∈ l, f x = g x) → l.foldl (fun out q => if f q then lU fx fy q out else out) out = l.foldl (fun out q => if g q then lU fx fy q out else out) out := by
  intro l
  induction l with
  | nil => intro out _; rfl
  | cons x l bI =>
   intro out h;rw [p5, p5, h x (jd ..)];exact bI _ fun y ai => h y (k5 _ ai)
 exact key l [] h
theorem F8 {E : List bT} {r R : Nat} {p q x : aj} : jo (q6 E r R) p q x = true ↔ x ≠ p ∧ x ≠ q ∧ Np r p q x = true := by
 unfold jo; simp only [c5, b4, and_assoc]; exact Iff.rfl
theorem Ao (p q : aj) (bg : List aj) : (fJ p q bg).Perm bg := by
 have := Ec (decide (q.1 < p.1)) (decide (q.2 < p.2)) (fun _ => true) bg;rwa [List.filter_eq_self.2 (fun _ _ => rfl)] at this
theorem Jf {E : List bT} {r R : Nat} {p q : aj} {bg : List aj} (ax : bg.Nodup) (h : ∀ x ∈ bg, jo (q6 E r R) p q x = true) : fJ p q bg = rC r bg p q := by
 unfold rC LV;rw [BM, BM, ← agr (f := fun _ => true) (g := qX (2 ^ r * p.1) (2 ^ r * p.2) (2 ^ r * q.1) (2 ^ r * q.2) r) (fun x aa => ((F8.1 (h x aa)).2.2).symm)];have hp := Ao p q bg;show fJ p q bg = (fJ p q bg).foldl (pB p q) [];rw [LW (fx := false) (fy := false) (fJ p q bg) [] (fun x aa => ⟨(F8.1 (h x (hp.mem_iff.1 aa))).1, (F8.1 (h x (hp.mem_iff.1 aa))).2.1⟩) (by simpa using hp.nodup_iff.2 ax)];rfl
theorem Lw {R : aj → aj → Prop} : ∀ {A B : List aj} {q : aj}, fM R (A ++ q :: B) → fM R (A ++ [q]) ∧ fM R (q :: B)
 | [], _, _, h => ⟨trivial, h⟩
 | [a], _, _, h => ⟨⟨h.1, trivial⟩, h.2⟩
 | a :: b :: A, B, q, h => by
  have bI := Lw (A := b :: A) h.2;exact ⟨⟨h.1, bI.1⟩, bI.2⟩
theorem agX {V : List aj} {j : Nat} {p q : aj} (hp : V[j]? = some p) (an : V[j + 1]? = some q) : ∃ A B, V = A ++ p :: q :: B ∧ A.length = j ∧ ∀ l, db V j l = A ++ p :: (l ++ q :: B) := by
 obtain ⟨h1, aF⟩ := bA.1 hp;obtain ⟨h2, aP⟩ := bA.1 an;have hd := Ww hp an;refine ⟨V.take j, V.drop (j + 2), by rw [← hd, ju], by rw [dX]; omega, fun l => ?_⟩;unfold db;rw [jT h1, aF, mG h2, aP];simp
theorem yr {R : aj → aj → Prop} {V l : List aj} {j : Nat} {p q : aj} (hp : V[j]? = some p) (an : V[j + 1]? = some q) (h : fM R V) (ak : R p q → fM R (p :: (l ++ [q]))) : fM R (db V j l) := by
 obtain ⟨A, B, e, _, FI⟩ := agX hp an;rw [FI];rw [e] at h;obtain ⟨h1, h2⟩ := Lw h;refine Fs h1 ?_;have ao := ak h2.1;have := Fs (A := p :: l) (q := q) (W := B) ao h2.2;exact this
theorem vA.cut {E : List bT} {r R : Nat} (ap : r ≤ 28) {V : List aj} {D : List Int} (h : vA r V D) {j : Nat} {p q : aj} {bg : List aj} (hp : V[j]? = some p) (an : V[j + 1]? = some q) (ax : bg.Nodup) (aq : ∀ x ∈ bg, jo (q6 E r R) p q x = true) : vA r (db V j (fJ p q bg)) (et D j bg.length) := by
 obtain ⟨h1, h2, ao, aD, eQ, jE⟩ := h;have hS : (0 : Int) < 2 ^ r := gp (by decide);have ae := (bA.1 an).1;rw [Jf ax aq];have lS := Bg ap bg p q;have hlen : (rC r bg p q).length = bg.length := by rw [← Jf ax aq]; exact (Ao p q bg).length_eq
 refine ⟨fun az => ?_, ?_, fun v hv => ?_, ?_, ?_, ?_⟩
 ·have := congrArg List.length az;rw [ys, List.length_nil] at this; omega
 ·rw [ys, Fz (by omega), hlen]; omega
 ·rcases LQ hv with hv | hv
  ·exact ao v hv
  ·exact (lS.2.1 v hv).2.1
 ·exact yr hp an aD fun ia => Vk ap bg p q ia
 ·refine eQ.imp (fun h => yr hp an h fun ia => Bh ap bg p q ia (fun x aa => ?_) (fun x y u w hu hw r2 => ?_)) (fun h => yr hp an h fun ia => Bh ap bg p q ia (fun x aa => ?_) (fun x y u w hu hw r2 => ?_))
  ·obtain ⟨u, hu⟩ := aa; exact (Db hS hu.1.1 hu.1.2 hu.2.1).1 ia
  ·exact Dd hS hu.2.1 hw.2.1 r2 ia
  ·obtain ⟨u, hu⟩ := aa; exact ((Db hS hu.1.1 hu.1.2 hu.2.1).2 ia).symm
  ·exact Dc hS hu.2.1 hw.2.1 r2 ia
 ·refine jE.imp (fun h => yr hp an h fun ia => Bh ap bg p q ia (fun x aa => ?_) (fun x y u w hu hw r2 => ?_)) (fun h => yr hp an h fun ia => Bh ap bg p q ia (fun x aa => ?_) (fun x y u w hu hw r2 => ?_))
  ·obtain ⟨u, hu⟩ := aa; exact (Db hS hu.1.1 hu.1.2 hu.2.2).1 ia
  ·exact Dd hS hu.2.2 hw.2.2 r2 ia
  ·obtain ⟨u, hu⟩ := aa; exact ((Db hS hu.1.1 hu.1.2 hu.2.2).2 ia).symm
  ·exact Dc hS hu.2.2 hw.2.2 r2 ia
def mE (r : Nat) (e : bT) (d : Int) (t : Rat) (x : aj) : Prop := kD e.1.1 e.1.2 e.2.1 e.2.2 (2 ^ r) (aO d * aO (2 ^ r)) t x
theorem Ds {r : Nat} {e : bT} {d d' : Int} (h : d ≤ d') {t : Rat} {x : aj} (aa : mE r e d t x) : mE r e d' t x := by
 refine ace ?_ aa;have hS : (0 : Rat) < aO (2 ^ r) := nD (gp (by decide));exact Rat.mul_le_mul_of_nonneg_right (mM.2 h) (mL hS)
theorem LA {r : Nat} {e : bT} {p q : aj} {d : Int} {t1 t2 : Rat} (Ga : t1 ≤ t2) (Gc : t2 ≤ 1) (hp : mE r e d t1 p) (an : mE r e d t2 q) : ∀ (l : List aj) (kk : Rat), 0 ≤ kk → kk ≤ 1 → (∀ x ∈ l, ∀ u, ql (2 ^ r) p q u x → kk ≤ u) → (∀ x ∈ l, ∃ u, ql (2 ^ r) p q u x) → j2 (decide ((2 : Int) ^ r * q.1 < 2 ^ r * p.1)) (decide ((2 : Int) ^ r * q.2 < 2 ^ r * p.2)) l → Br (mE r e) (d + 1) t2 (t1 + kk * (t2 - t1)) l
 | [], kk, az, h1, _, _, _ => by
  show t1 + kk * (t2 - t1) ≤ t2;have := iF (show 0 ≤ 1 - kk by grind) (show 0 ≤ t2 - t1 by grind);grind
 | x :: l, kk, az, h1, hu, hm, aJ => by
  have hS : (0 : Int) < 2 ^ r := gp (by decide);obtain ⟨u, wZ⟩ := hm x (jd ..);have al := ir.1 aJ;have h2 := hu x (jd ..) u wZ;have bn := iF (show 0 ≤ u - kk by grind) (show 0 ≤ t2 - t1 by grind);have bY := iF (show 0 ≤ 1 - u by have := wZ.1.2; grind) (show 0 ≤ t2 - t1 by grind)
  have aa : mE r e (d + 1) (t1 + u * (t2 - t1)) x := by
   have := acd hp an wZ;unfold mE;rw [show aO (d + 1) = aO d + 1 by simp [aO, p6]];exact this
  exact ⟨t1 + u * (t2 - t1), by grind, by grind, aa, LA Ga Gc hp an l u wZ.1.1 wZ.1.2 (fun y ai w hw => O9 hS wZ hw (al.1 y ai)) (fun y ai => hm y (k5 _ ai)) al.2⟩
def tI (E : List bT) (r : Nat) (i : Nat) (c : List aj × List Int) : Prop := vA r c.1 c.2 ∧ qx (mE r (E.getD i kq)) 0 c.1 c.2
theorem Dr {r : Nat} (a b : Int) : n7 (aO a) (aO b) (2 * (aO (2 ^ r) * aO (bB a r))) (aO 1 * aO (2 ^ r)) 0 ∧ n7 (aO b) (aO a) (2 * (aO (2 ^ r) * aO (bB a r))) (aO 1 * aO (2 ^ r)) 1 := by
 have ef : (0 : Int) < 2 ^ r := gp (by decide);obtain ⟨g0, g1⟩ : 2 * (bB a r * 2 ^ r) ≤ 2 * a + 2 ^ r ∧ 2 * a + 2 ^ r < 2 * (bB a r * 2 ^ r) + 2 * 2 ^ r := Xw ef;have c0 := mM.2 g0;have q1 := IF.2 g1;have z : aO 1 = 1 := by simp [aO]
 rw [z];simp only [aO, p6, lC] at c0 q1 ⊢;generalize ((2 ^ r : Int) : Rat) = S at *;generalize ((bB a r : Int) : Rat) = g at *;generalize ((a : Int) : Rat) = a' at *;generalize ((b : Int) : Rat) = bS at *;have aP : ((2 : Int) : Rat) = 2 := by simp
 rw [aP] at c0 q1;refine ⟨⟨?_, ?_⟩, ?_, ?_⟩ <;> grind
theorem VY {r : Nat} (e : bT) : qx (mE r e) 0 (hn (kE r e.1) (kE r e.2)).1 (hn (kE r e.1) (kE r e.2)).2 :=
 VX ⟨(Dr e.1.1 e.2.1).1, (Dr e.1.2 e.2.2).1⟩ ⟨(Dr e.2.1 e.1.1).2, (Dr e.2.2 e.1.2).2⟩
theorem ab5 {r : Nat} {p q : aj} (hp : dd r p.1 p.2 = true) (an : dd r q.1 q.2 = true) : vA r (hn p q).1 (hn p q).2 := by
 unfold hn
 split
 ·exact ⟨by simp, rfl, fun v hv => by rw [kF.1 hv]; exact hp, trivial, .inl trivial, .inl trivial⟩
 ·rename_i bU;refine ⟨by simp, rfl, fun v hv => ?_, ⟨bU, trivial⟩, ?_, ?_⟩
  ·simp only [gj, List.not_mem_nil, or_false] at hv;rcases hv with rfl | rfl
   ·exact hp
   ·exact an
  ·rcases Int.le_total p.1 q.1 with h | h
   ·exact .inl ⟨h, trivial⟩
   ·exact .inr ⟨h, trivial⟩
  ·rcases Int.le_total p.2 q.2 with h | h
   ·exact .inl ⟨h, trivial⟩
   ·exact .inr ⟨h, trivial⟩
theorem La {X W a b n d : Int} (dV : 0 < W) (hd : 0 < d) (ax : 0 ≤ n ∧ n ≤ d) (e : X * d = W * (a * (d - n) + b * n)) {lo hi : Int} (aJ : lo ≤ a ∧ a ≤ hi) (ab : lo ≤ b ∧ b ≤ hi) : lo * W ≤ X ∧ X ≤ hi * W := by
 have a1 := fY (show 0 ≤ a - lo by omega) (show 0 ≤ d - n by omega);have a2 := fY (show 0 ≤ hi - a by omega) (show 0 ≤ d - n by omega);have b1 := fY (show 0 ≤ b - lo by omega) ax.1;have b2 := fY (show 0 ≤ hi - b by omega) ax.1;have s1 : lo * d ≤ a * (d - n) + b * n := by grind
 have s2 : a * (d - n) + b * n ≤ hi * d := by grind
 have t1 := od s1 (lB dV);have t2 := od s2 (lB dV);rw [← e] at t1 t2;refine ⟨Int.le_of_mul_le_mul_right ?_ hd, Int.le_of_mul_le_mul_right ?_ hd⟩
 ·rw [show lo * W * d = W * (lo * d) by grind]; exact t1
 ·rw [show hi * W * d = W * (hi * d) by grind]; exact t2
theorem QY {r : Nat} (ap : r ≤ 28) {a b : bT} (h1 : gg a.1 = true) (h2 : gg a.2 = true) {x : aj} (h : zS r a b = some x) : dd r x.1 x.2 = true := by
 unfold zS at h
 split at h
 ·rename_i af;cases h;obtain ⟨X, Y, W, bf, e⟩ := HH af;obtain ⟨q1, q2, bR, _⟩ := Iw (r := r) e;obtain ⟨_, _, ⟨n, d, g1, g2, g3, g4⟩, _⟩ := C8 e;have cy := pX.1 h1;have cz := pX.1 h2;obtain ⟨c1, c2⟩ := La q2 g1 g2 g3 (lo := -134217728) (hi := 134217727) (by omega) (by omega);obtain ⟨hf, nS⟩ := La q2 g1 g2 g4 (lo := -134217728) (hi := 134217727) (by omega) (by omega);rw [bR];unfold dd;rw [DN ap q2 c1 c2, DN ap q2 hf nS]; rfl
 ·cases h
theorem LS {r : Nat} {l m : aj × aj} (h1 : dd r l.1.1 l.1.2 = true) (h2 : dd r l.2.1 l.2.2 = true) {x : aj} (h : rI r l m = some x) : dd r x.1 x.2 = true := by
 have hS : (0 : Int) < 2 ^ r := gp (by decide);unfold rI at h
 split at h
 ·rename_i af;cases h;obtain ⟨X, Y, W, bf, e⟩ := HH af.1;obtain ⟨q1, q2, bR, dD⟩ := Iw (r := r) e;obtain ⟨_, _, ⟨n, d, g1, g2, g3, g4⟩, _⟩ := C8 e;generalize iC r (hl (gv r l) (gv r m)) = x at *;obtain ⟨⟨i1, i2⟩, i3, i4⟩ := dD;have v1 := Rf hS q2 g1 g2 g3 i1 i2;have v2 := Rf hS q2 g1 g2 g4 i3 i4;unfold dd at h1 h2 ⊢;rw [c5] at h1 h2 ⊢;refine ⟨?_, ?_⟩
  ·rcases Int.le_total l.1.1 l.2.1 with h | h
   ·exact Az h1.1 h2.1 (v1.1 h).1 (v1.1 h).2
   ·exact Az h2.1 h1.1 (v1.2 h).1 (v1.2 h).2
  ·rcases Int.le_total l.1.2 l.2.2 with h | h
   ·exact Az h1.2 h2.2 (v2.1 h).1 (v2.1 h).2
   ·exact Az h2.2 h1.2 (v2.2 h).1 (v2.2 h).2
 ·cases h
theorem afk {E : List bT} {r R : Nat} (ap : r ≤ 28) (e7 : gK E = true) : kp (q6 E r R) (tI E r) where
 nodup i c h := h.1.nodup
 new i hi := ⟨ab5 (Di ap (oS e7 i).1) (Di ap (oS e7 i).2), VY _⟩
 split i c j p q bg h hlen hp an ax _ aq := by
  refine ⟨h.1.cut ap hp an ax aq, ?_⟩;have Zf := Ao p q bg;have e : bg.length = (fJ p q bg).length := Zf.length_eq.symm;show qx _ _ (db c.1 j (fJ p q bg)) (et c.2 j bg.length);rw [e];refine LC (fun d t x aa => Ds (by omega) aa) (fun d t1 t2 Ga Gc h1 h2 => ?_) c.1 c.2 j 0 hlen hp an h.2;have lS := Bg ap bg p q;rw [Jf ax aq];have := LA Ga Gc h1 h2 (rC r bg p q) 0 Rat.le_refl (by decide) (fun x aa u hu => hu.1.1) (fun x aa => (lS.2.1 x aa).2.2) lS.1;rwa [show t1 + 0 * (t2 - t1) = t1 by grind] at this
 gN := Ao
 F3 i _ := ⟨Di ap (oS e7 i).1, Di ap (oS e7 i).2⟩
 MN i j x _ _ h := QY ap (oS e7 i).1 (oS e7 i).2 h
 ML p q fH cd x h1 h2 _ _ h := LS (l := (p, q)) (m := (fH, cd)) h1 h2 h
 cut hot p q fH cd x aq _ _ h1 h2 ao aD cm eQ h := (afv E ap R).Wg hot p q fH cd x aq h1 h2 ao aD cm eQ h
variable {α : Type} [DecidableEq α]
theorem Oq (o : cP α) : ∀ (m n : Nat) (s : aU α), lv o (m + n) s = lv o n (lv o m s)
 | 0, n, s => by rw [je]; rfl
 | m + 1, n, s => by
  rw [show m + 1 + n = (m + n) + 1 by omega];exact Oq o m n (eP o s)
def eK (o : cP α) : Nat → aU α → Nat × aU α
 | 0, s => (0, s)
 | n + 1, s => if 4 ≤ s.ph then (0, s) else ((eK o n (eP o s)).1 + 1, (eK o n (eP o s)).2)
theorem afD {o : cP α} {s : aU α} (h : 4 ≤ s.ph) : ∀ n, eK o n s = (0, s)
 | 0 => rfl
 | n + 1 => if_pos h
theorem D3 {o : cP α} : ∀ (n : Nat) (s : aU α), (eK o n s).2 = lv o (eK o n s).1 s ∧ (eK o n s).1 ≤ n ∧ ((eK o n s).1 < n → 4 ≤ (eK o n s).2.ph)
 | 0, s => ⟨rfl, dE _, fun h => absurd h (by show ¬ 0 < 0; omega)⟩
 | n + 1, s => by
  obtain ⟨h1, h2, ao⟩ := D3 n (eP o s);unfold eK
  by_cases h : 4 ≤ s.ph
  ·rw [if_pos h]; exact ⟨rfl, dx _, fun _ => h⟩
  ·rw [if_neg h]; exact ⟨h1, by show _ + 1 ≤ n + 1; omega, fun aR => ao (by have : (eK o n (eP o s)).1 + 1 < n + 1 := aR; omega)⟩
end Go.Proofs.YtbcecodakfejaaaGreat.bq
namespace Go.Proofs.YtbcecodakfejaaaGreat
open Go.RowKit
section
variable {P : Program} {bw : eZ} {bK A : Nat → Prop} {R : aI} {s s' : aC} {a a' : Act} {w w' : World} {ad a7 : Nat → Nat}
theorem ev.V6 (aw : ev bw bK R s a w A ad) (i : Nat) (r : bE) (hi : R i = some r) (bF : 0 < r.sz) : ∃ dU, ev bw bK (fun j => if j = i then none else R j) s a w dU ad ∧ gE (s.free dU ad) ad w (.p (bX r.sz r.n r.aT)) r.v := by
 obtain ⟨oH, cC, aq⟩ := aw.rows i r hi;obtain ⟨xs, aA, ak⟩ := oH.row bF;have uR : ∀ b, s.free A ad b → b < w.heap.size → s.free (fun b => A b ∨ r.v.ownBlock = some b) ad b ∧ w.heap[b]? = w.heap[b]? := fun b ab _ => ⟨⟨.inl ab.1, ab.2⟩, rfl⟩;have Gr : Rel (nW bw s ad w) (fun b => A b ∨ r.v.ownBlock = some b) s ad a w := aw.rel.yj (fun b ab _ => ⟨.inl ab, rfl⟩) (fun k cs af => ⟨rfl, fun au => au.2 k cs af rfl⟩) (j3.refl _) (fun b ab => .inl (aw.rel.up b ab)) (wH _ _ _)
 have wG : ev bw bK (fun j => if j = i then none else R j) s a w (fun b => A b ∨ r.v.ownBlock = some b) ad := by
  refine ⟨aw.up, ?_, Gr, aw.oO, aw.below, fun j q ae => ?_, fun j k q cd ae af kz => ?_, fun j q g ae => ?_, aw.j7⟩
  ·rintro b (ab | ab)
   ·exact aw.sub b ab
   ·exact (aw.hot i r b hi (.inl ab)).2
  ·have gy : j ≠ i := fun e => by rw [if_pos e] at ae; cases ae
   rw [if_neg gy] at ae;obtain ⟨lp, At, Au⟩ := aw.rows j q ae;refine ⟨lp.kept At (fun _ _ => rfl) (dE _) uR, At, fun g dW => ⟨?_, (Au g dW).2⟩⟩;rintro (ab | ab)
   ·exact (Au g dW).1 ab
   ·exact aw.apart i j r q hi ae (Ne.symm gy) g (.inl ab) dW
  ·have gy : j ≠ i := fun e => by rw [if_pos e] at ae; cases ae
   have hA : k ≠ i := fun e => by rw [if_pos e] at af; cases af
   rw [if_neg gy] at ae;rw [if_neg hA] at af;exact aw.apart j k q cd ae af kz
  ·have gy : j ≠ i := fun e => by rw [if_pos e] at ae; cases ae
   rw [if_neg gy] at ae;exact aw.hot j q g ae
 refine ⟨fun b => A b ∨ r.v.ownBlock = some b, wG, ?_⟩
 ·have nY := ak.1;obtain ⟨kZ, ax | ⟨g, cap, cur, ky, qH, uW, eO, iS, eu, n3⟩⟩ := id aA
  ·obtain ⟨aF, aP⟩ := ax;have : r.aT = [] := jv (by rw [nY, kZ, aP]; simp);rw [aF];exact ⟨⟨none, 0, by rw [aP], by omega, by rw [this, aP]; simp, fun h => absurd h (by omega)⟩, fun b ⟨c', a', q, ax, ab⟩ => by cases q⟩
  ·have tj := aA.cells (g := g) (by rw [ky]; rfl);rw [ky];have qE : kL w ⟨g, 0, none⟩ r.aT xs := ⟨(jU.1 uW).1, ak.wo cC fun b _ _ => ⟨trivial, rfl⟩, tj, cC⟩;refine ⟨⟨some ⟨g, 0, none⟩, cap, rfl, eO, by rw [nY]; exact kZ, fun ax => ⟨⟨g, 0, none⟩, xs, rfl, qE⟩⟩, ?_⟩;rintro b ⟨c', a', q, ax, au⟩;cases q;rcases au with rfl | ⟨j, y, v, ai, hv, gx⟩
   ·exact ⟨.inr rfl, (aq g (.inl (by rw [ky]; rfl))).2⟩
   ·have bb : j < xs.length := by rw [← nY]; exact (bA.1 ai).1
    have h2 := tj j _ (bJ bb);rw [hv] at h2;cases h2;have ao := ak.2 j y _ ai (bJ bb);cases y with
    | c u => cases gx
    | own k o => cases gx
    | p S => have := ao.2 b gx; exact ⟨.inl this.1, this.2⟩
theorem IY (i k off : Nat) {c : Code} {Q : Exit → aI → aC → Prop} {cs : List AC} (r : bE) (hi : R i = some r) (af : s.mem k = some cs) (al : cs[off]? = some (.c r.v)) (h : fl P c Q (fun j => if j = i then none else R j) (s.ed k (cs.set off (.p (bX r.sz r.n r.aT))))) (bF : 0 < r.sz := by first | decide | exact jw _) : fl P c Q R s := by
 rintro ok bw bK a w ⟨A, ad, aw⟩;obtain ⟨dU, B2, w2⟩ := aw.V6 i r hi bF
 have XT := B2.next (B2.rel.ae6 (ds := cs.set off (.p (bX r.sz r.n r.aT))) af fun vs hv => ⟨by rw [List.length_set]; exact hv.1, fun j x u aa hu => by
  rw [List.getElem?_set] at aa
  by_cases e : off = j
  ·subst e;rw [if_pos rfl] at aa
   split at aa
   ·cases aa;obtain ⟨rfl, _⟩ := hv.2 off _ u al hu;exact w2
   ·cases aa
  ·rw [if_neg e] at aa;exact hv.2 j x u aa hu⟩)
 refine h (ok.ed fun x aa j ae => ?_) bw bK a w ⟨dU, ad, XT⟩;rcases List.mem_or_eq_of_mem_set aa with aa | rfl
 ·exact ok.dC k cs x j af aa ae
 ·cases ae
end
section
variable {P : Program} {s : aC} {ops : Array Oper} {K : aC → Prop} {rest : List Oper} {ty : Nat} {pos : String} {after : Array Edge} {guard : Option (Nat × Bool)} {d : Nat}
end
theorem aft {xs aT : List AC} (ak : xs.length = aT.length) (h : ∀ (i : Nat) x y, xs[i]? = some x → aT[i]? = some y → x = y ∨ (x = .c (.slice none 0 0) ∧ ∃ z, y = .p (bX z 0 []))) (U : Nat → Prop) (ad : Nat → Nat) (W : World) (vs : List Value) (hv : bL U ad W xs vs) : bL U ad W aT vs := by
 refine ⟨by rw [← ak]; exact hv.1, fun i y v ai hu => ?_⟩;have hi : i < xs.length := by rw [ak]; exact (bA.1 ai).1
 have aa := bJ hi;have h1 := hv.2 i _ v aa hu;rcases h i _ y aa ai with e | ⟨e, z, rfl⟩
 ·rw [← e]; exact h1
 ·rw [e] at h1;exact PD z U ad W v h1
theorem Kj {xs aT : List AC} (ak : xs.length = aT.length) (h : ∀ (i : Nat) x y, xs[i]? = some x → aT[i]? = some y → x = y ∨ (x = .c (.slice none 0 0) ∧ ∃ z, y = .p (bX z 0 []))) : ah.aS (.w (.agg xs)) (.w (.agg aT)) := fun U ad W v hv => by
 obtain ⟨vs, rfl, fb⟩ := hv;exact ⟨vs, rfl, aft ak h U ad W vs fb⟩
section
variable {U : Nat → Prop} {W : World} {x y : AC} {xs aT : List AC}
end
structure T4 where
 l : Nat
 U : Nat → Prop
 hQ : World
 nH : Nat → Prop
 J : Nat → (Nat → Prop) → World → Prop
 ahv : (Nat → Prop) → World → Prop
 xs : List (List ah)
section
variable {P : Program} {X : T4} {x y c : Code} {Q : Exit → Option Nat → aC → Prop} {g jn : Option Nat} {s s' : aC} {a a' : Act} {w w' w2 : World} {A : Nat → Prop} {ad a7 : Nat → Nat} {C : Nat → Prop}
end
def SS (pe : Bool → Prop) : e0 where
 holds w v := ∃ b, v = .bool b ∧ pe b
 kW w v b := False
 frame w w' v := fun h au => ⟨h, fun b ab => ab⟩
 ik w v b := fun h au => au.elim
 cell w v := by rintro ⟨b, rfl, _⟩; rfl
abbrev Av (pe : Bool → Prop) : ah := .w (.one (.p (SS pe)))
section
variable {P : Program} {ops : Array Oper} {K : aC → Prop} {rest : List Oper} {s : aC} {d ty : Nat} {pos : String} {after : Array Edge} {guard : Option (Nat × Bool)}
theorem XA {op : BinOp} {t : TypeId} {x y : Operand} {a : Option Addr} {n c : Nat} {v : Value} : eqGuard op t x y (.slice a n c) v = pure () := by cases op <;> rfl
theorem UC {t dK sz n e bytes : Nat} {x : Operand} {xs : List AC} [T : mV P t e sz bytes] (hw : want ops ⟨some d, .binOp .eql t x (.const (.slice none 0 0)) dK, ty, pos, after, guard⟩ s = some true) (aa : s.look x = some (cM sz n xs)) (hd : Nat.blt d s.n = true) (h : bc P ops K rest (s.put (some d) (Av fun b => b = true → n = 0))) : bc P ops K (⟨some d, .binOp .eql t x (.const (.slice none 0 0)) dK, ty, pos, after, guard⟩ :: rest) s := by
 obtain ⟨_, _, hu, _⟩ := rj T.h;refine fS (av := Av fun b => b = true → n = 0) hw ⟨fun _ _ h => (by cases h), fun z aN => ?_, fun U ad W env he => ?_, fun j ae => absurd ae (ly _ j)⟩ hd h
 ·simp [Op.operands] at aN;rcases aN with rfl | rfl
  ·exact ⟨_, aa⟩
  ·exact ⟨_, rfl⟩
 ·obtain ⟨⟨A, c, hv, _, _, ec⟩, _⟩ := he x (by simp [Op.operands]) _ aa;have aP : env (.const (.slice none 0 0)) = .slice none 0 0 := (he (.const (.slice none 0 0)) (by simp [Op.operands]) _ rfl).1;refine ⟨.bool A.isNone, ?_, ⟨_, rfl, fun ab => ?_⟩, fun b ab => ab.elim⟩
  ·simp only [execOp, hv, aP, XA, Sem.run_bind, Sem.run_pure, Result.andThen_ok, Lib.run_eql_slice_nil W t e A n c 0 0 hu]
  ·refine Classical.byContradiction fun ax => ?_;obtain ⟨a, _, e, _⟩ := ec (by omega);rw [e] at ab; cases ab
end
section
variable {P : Program} {c : Code} {s : aC}
theorem Rel.Sj {B : eZ} {A : Nat → Prop} {ad : Nat → Nat} {a : Act} {w : World} {d : Nat} {pe : Bool → Prop} (h : Rel B A s ad a w) (hd : s.tmps d = some (Av pe)) : ∃ b, pe b ∧ Rel B A (s.put (some d) (bk b)) ad a w := by
 obtain ⟨v, h1, ⟨b, rfl, ab⟩, _⟩ := h.hc d _ hd;refine ⟨b, ab, h.Rw hd fun u hu _ => ?_⟩;rw [h1] at hu;cases hu;exact ⟨rfl, rfl⟩
theorem Vs (d : Nat) {Q : Exit → aC → Prop} {pe : Bool → Prop} (hd : s.tmps d = some (Av pe)) (h : ∀ b, pe b → fj P c Q (s.put (some d) (bk b))) : fj P c Q s := by
 intro ok B A ad a w aw;obtain ⟨b, ab, ct⟩ := aw.Sj hd;exact h b ab (ok.put fun j ae => absurd ae (ja _ j)) B A ad a w ct
theorem RW (d : Nat) {Q : Exit → aI → aC → Prop} {R : aI} {pe : Bool → Prop} (hd : s.tmps d = some (Av pe)) (h : ∀ b, pe b → fl P c Q R (s.put (some d) (bk b))) : fl P c Q R s := by
 intro ok bw bK a w ⟨A, ad, aw⟩;obtain ⟨b, ab, ct⟩ := aw.rel.Sj hd;exact h b ab (ok.put fun j ae => absurd ae (ja _ j)) bw bK a w ⟨A, ad, aw.next ct⟩
end
def AC.vt : AC → Bool
 | .p _ => false
 | _ => true
def nv (m : Mem) (R : aI) : Prop := (∀ k cs, m k = some cs → cs.all AC.vt = true) ∧ ∀ i r, R i = some r → 0 < r.sz ∧ r.aT.all AC.vt = true
theorem bL.plain {U cw : Nat → Prop} {ad : Nat → Nat} {W bf : World} {xs : List AC} {vs : List Value} (h : bL U ad W xs vs) (hp : xs.all AC.vt = true) : bL cw ad bf xs vs := by
 refine ⟨h.1, fun i x v aa hv => ?_⟩;have h1 := h.2 i x v aa hv;have h2 := b6.1 hp x (cV aa);cases x with
 | c u => exact h1
 | own k o => exact h1
 | p S => cases h2
theorem bE.ok.plain {U cw : Nat → Prop} {ad : Nat → Nat} {W : World} {r : bE} (h : r.ok U ad W) (hs : 0 < r.sz) (hp : r.aT.all AC.vt = true) : r.ok cw ad W := by
 obtain ⟨xs, h1, h2⟩ := h.row hs;exact .inl ⟨hs, xs, h1, h2.plain hp⟩
abbrev nw (b off : Nat) : Value := .pointer (some ⟨b, off, none⟩)
abbrev eb (b : Nat) : Value := nw b 0
abbrev tG : Nat → Prop := fun _ => False
theorem e2.lt {U : Nat → Prop} {ad : Nat → Nat} {W : World} {m : Mem} {R : aI} (h : e2 U ad W m R) {b : Nat} (ab : ej ad m R b) : b < W.heap.size := by
 rcases ab with ⟨k, cs, af, rfl⟩ | ⟨i, r, hi, aq⟩
 ·obtain ⟨vs, ty, h1, _⟩ := h.dC k cs af;exact (jU.1 h1).1
 ·exact (h.rows i r hi).1.lt aq
def k8 (ad : Nat → Nat) (m : Mem) (R : aI) (k : Nat) : e0 where
 holds w v := v = eb (ad k) ∧ e2 tG ad w m R ∧ nv m R
 kW w v b := ej ad m R b
 frame := by
  rintro w w' v ⟨rfl, h, hp⟩ au;refine ⟨⟨rfl, ⟨fun j cs ae => ?_, h.fF, h.inj, fun i r hi => ?_, h.apart⟩, hp⟩, fun b ab => ab⟩
  ·obtain ⟨vs, ty, h1, h2, ao⟩ := h.dC j cs ae;exact ⟨vs, ty, by rw [au _ (.inl ⟨j, cs, ae, rfl⟩)]; exact h1, h2.plain (hp.1 j cs ae), ao⟩
  ·obtain ⟨h1, h2, ao⟩ := h.rows i r hi;obtain ⟨xs, g1, g2⟩ := h1.row (hp.2 i r hi).1;exact ⟨.inl ⟨(hp.2 i r hi).1, xs, Qd g1 fun g q => au g (.inr ⟨i, r, hi, .inl q⟩), g2.plain (hp.2 i r hi).2⟩, h2, ao⟩
 ik := fun w v b ⟨_, h, _⟩ ab => h.lt ab
 cell := fun w v ⟨e, _⟩ => by rw [e]; rfl
def Du (ad : Nat → Nat) (m : Mem) (R : aI) (k : Nat) : bE := ⟨0, 0, eb (ad k), 0, [.p (k8 ad m R k)]⟩
theorem PT {ad : Nat → Nat} {m : Mem} {R : aI} {k : Nat} {W : World} (h : e2 tG ad W m R) (hp : nv m R) {b : Nat} : (Du ad m R k).own b ↔ ej ad m R b := by
 constructor
 ·rintro (h1 | ⟨_, S, w, h1, h2, ao⟩)
  ·cases h1
  ·cases h1; exact ao
 ·exact fun h1 => .inr ⟨rfl, k8 ad m R k, W, rfl, ⟨rfl, h, hp⟩, h1⟩
theorem PU {ad : Nat → Nat} {m : Mem} {R : aI} {k : Nat} {b : Nat} (h : (Du ad m R k).own b) : ej ad m R b := by
 rcases h with h1 | ⟨_, S, w, h1, h2, ao⟩
 ·cases h1
 ·cases h1; exact ao
theorem acq {U : Nat → Prop} {ad a7 : Nat → Nat} {m : Mem} {R : aI} {k : Nat} {W : World} (h : e2 tG ad W m R) (hp : nv m R) : (Du ad m R k).ok U a7 W :=
 .inr ⟨rfl, rfl, rfl, ⟨_, rfl, rfl, h, hp⟩, fun b ab => h.lt (PU ab)⟩
theorem acp {U : Nat → Prop} {ad a7 : Nat → Nat} {m : Mem} {R : aI} {k : Nat} {W : World} (h : (Du ad m R k).ok U a7 W) : e2 tG ad W m R ∧ nv m R := by
 rcases h with ⟨h1, _⟩ | ⟨_, _, _, ⟨S, hS, aR⟩, _⟩
 ·cases h1
 ·cases hS; exact aR.2
theorem e2.sub {U : Nat → Prop} {ad : Nat → Nat} {W : World} {m m1 : Mem} {R bh : aI} (h : e2 U ad W m R) (hm : ∀ k cs, m1 k = some cs → m k = some cs) (ap : bz bh R) (fF : ∀ k cs x j, m1 k = some cs → x ∈ cs → x.owns j → ∃ ar, m1 j = some ar) : e2 U ad W m1 bh := by
 refine ⟨fun k cs af => h.dC k cs (hm k cs af), fF, fun k k' cs ar af eI => h.inj k k' cs ar (hm k cs af) (hm k' ar eI), fun i r hi => ?_, fun i j r q hi ae => h.apart i j r q (ap i r hi) (ap j q ae)⟩;obtain ⟨h1, h2, ao⟩ := h.rows i r (ap i r hi);exact ⟨h1, h2, fun g aq => ⟨(ao g aq).1, fun k cs af => (ao g aq).2 k cs (hm k cs af)⟩⟩
theorem e2.none {U : Nat → Prop} {ad : Nat → Nat} {W : World} {m : Mem} {R : aI} (h : e2 U ad W m R) (hp : nv m R) : e2 tG ad W m R := by
 refine ⟨fun k cs af => ?_, h.fF, h.inj, fun i r hi => ?_, h.apart⟩
 ·obtain ⟨vs, ty, h1, h2, _⟩ := h.dC k cs af;exact ⟨vs, ty, h1, h2.plain (hp.1 k cs af), id⟩
 ·obtain ⟨h1, h2, ao⟩ := h.rows i r hi;exact ⟨h1.plain (hp.2 i r hi).1 (hp.2 i r hi).2, h2, fun g aq => ⟨id, (ao g aq).2⟩⟩
theorem e2.more {U : Nat → Prop} {ad : Nat → Nat} {W : World} {m : Mem} {R : aI} (h : e2 tG ad W m R) (hp : nv m R) (di : ∀ b, ej ad m R b → ¬ U b) : e2 U ad W m R := by
 refine ⟨fun k cs af => ?_, h.fF, h.inj, fun i r hi => ?_, h.apart⟩
 ·obtain ⟨vs, ty, h1, h2, _⟩ := h.dC k cs af;exact ⟨vs, ty, h1, h2.plain (hp.1 k cs af), di _ (.inl ⟨k, cs, af, rfl⟩)⟩
 ·obtain ⟨h1, h2, ao⟩ := h.rows i r hi;exact ⟨h1.plain (hp.2 i r hi).1 (hp.2 i r hi).2, h2, fun g aq => ⟨di g (.inr ⟨i, r, hi, aq⟩), (ao g aq).2⟩⟩
theorem e2.aca {U : Nat → Prop} {ad : Nat → Nat} {W : World} {m : Mem} {R : aI} (h : e2 U ad W m R) {b : Nat} (ab : ej ad m R b) : ¬ U b := by
 rcases ab with ⟨k, cs, af, rfl⟩ | ⟨i, r, hi, aq⟩
 ·exact (h.dC k cs af).choose_spec.choose_spec.2.2
 ·exact ((h.rows i r hi).2.2 b aq).1
abbrev jb (p : Value) (S : e0) : bE := ⟨0, 0, p, 0, [.p S]⟩
def x9 (P : Program) (f : FuncId) (args : List ah) (p : Value) (S : e0) (post : ah → e0 → Prop) : Prop := ∀ i, da P f args b3 (bt i (jb p S)) fun v aG ay => ∃ dh, aG = b3 ∧ ay = bt i (jb p dh) ∧ post v dh
def E0 (P : Program) (f : FuncId) (args : List ah) (post : Value → e0 → Prop) : Prop := ∀ i, da P f args b3 gh fun v aG ay => ∃ p S, aG = b3 ∧ ay = bt i (jb p S) ∧ v = aQ p ∧ post p S
theorem Ra {U : Nat → Prop} {ad : Nat → Nat} {W : World} {k off : Nat} {v : Value} (h : v = nw (ad k) off) : cX U ad W (.w (.one (.own k off))) v := by subst h; rfl
theorem j6.closed {U : Nat → Prop} {ad a7 : Nat → Nat} {W : World} {args : List ah} {vs : List Value} (al : args.all ah.aY = true) (h : j6 U ad W args vs) : j6 U a7 W args vs :=
 ⟨h.1, fun i x v aa hv => (h.2 i x v aa hv).map (fun b ab _ => ⟨ab, rfl⟩) fun j ae => absurd ae (ah.dq (b6.1 al x (cV aa)) j)⟩
theorem Dv {ad : Nat → Nat} {m : Mem} {R : aI} {k : Nat} {b : Nat} (h : (jb (eb (ad k)) (k8 ad m R k)).own b) : ej ad m R b := PU h
theorem agN {P : Program} {f : FuncId} {args : List ah} {ad : Nat → Nat} {m : Mem} {R : aI} {k off : Nat} {Post : ah → Mem → aI → Prop} {Post2 : ah → Mem → aI → Prop} (af : ∃ cs, m k = some cs) (eg : args.all ah.aY = true) (al : da P f (.w (.one (.own k off)) :: args) m R Post) (i : Nat)
  (hp : ∀ r m1 bh eT ov hQ v, Post r m1 bh → eT k = ad k → e2 ov eT hQ m1 bh → cX ov eT hQ r v → ∃ dF fk, Post2 dF b3 fk ∧ dF.aY = true ∧ cX ov eT hQ dF v ∧ e2 ov eT hQ b3 fk ∧ (∃ q, fk i = some q) ∧ ∀ b, ej eT b3 fk b → ej eT m1 bh b) : da P f (aQ (nw (ad k) off) :: args) b3 (bt i (jb (eb (ad k)) (k8 ad m R k))) Post2 := by
 refine ⟨fun U ahl W vs cI cD cK => ?_⟩;have hi : bt i (jb (eb (ad k)) (k8 ad m R k)) i = some (jb (eb (ad k)) (k8 ad m R k)) := by unfold bt; exact cl _ _ _
 obtain ⟨cT, _, u2⟩ := cI.rows i _ hi;obtain ⟨aR, oI⟩ := acp cT
 have gF : ∀ b, ej ahl b3 (bt i (jb (eb (ad k)) (k8 ad m R k))) b ↔ ej ad m R b := fun b => by
  constructor
  ·rintro (⟨j, cs, ae, _⟩ | ⟨j, q, ae, aq⟩)
   ·cases ae
   ·obtain ⟨rfl, rfl⟩ := fI ae; exact Dv aq
  ·exact fun h => .inr ⟨i, _, hi, (PT aR oI).2 h⟩
 have di : ∀ b, ej ad m R b → ¬ U b := fun b ab => (u2 b ((PT aR oI).2 ab)).1;obtain ⟨hlen, hv⟩ := cK
 match vs, hlen with
 | v0 :: vs, hlen =>
  have oJ : v0 = nw (ad k) off := (hv 0 _ v0 rfl rfl).1;have u6 : j6 U ad W args vs := j6.closed eg ⟨by simpa using hlen, fun j x v aa bQ => hv (j + 1) x v aa bQ⟩;refine (al.call U ad W (v0 :: vs) (aR.more oI di) (fun x aa j ae => ?_) ⟨hlen, fun j x v aa bQ => ?_⟩).mono ?_
  ·rcases gj.1 aa with rfl | aa
   ·obtain ⟨y, ai, ae⟩ := ae;simp [bx.cells] at ai;subst ai;cases ae;exact af
   ·exact absurd ae (ah.dq (b6.1 eg x aa) j)
  ·match j with
   | 0 => cases aa; cases bQ; exact Ra oJ
   | j + 1 => exact u6.2 j x v aa bQ
  ·rintro e bf ⟨v, r, m1, bh, eT, ov, rfl, jJ, B1, pS, iV, bn, bY, cy, cz, ab⟩;have jr : eT k = ad k := by obtain ⟨cs, h⟩ := af; exact (bn k cs h).1
   obtain ⟨dF, fk, q1, q2, bR, dD, l4, DO⟩ := hp r m1 bh eT ov bf v jJ jr B1 pS;refine ⟨v, dF, b3, fk, eT, ov, rfl, q1, dD, bR, fun j ae => absurd ae (ah.dq q2 j), fun k cs af => (by cases af), fun j q ae => ?_, fun b ab => ?_, fun b ab => ?_, ⟨ab.os, ab.tape, ab.output, ab.size, fun b au => ab.block b ⟨au.1, fun GK => au.2 ((gF b).2 GK)⟩⟩⟩
   ·obtain ⟨rfl, rfl⟩ := fI ae;exact l4
   ·rcases cy b ab with q | q | q
    ·exact .inl q
    ·exact .inr (.inl q)
    ·exact .inr (.inr ((gF b).2 q))
   ·rcases cz b (DO b ab) with q | q
    ·exact .inl ((gF b).2 q)
    ·exact .inr q
theorem PV {U : Nat → Prop} {ad a7 : Nat → Nat} {W : World} {m m1 : Mem} {R bh : aI} {k : Nat} (h : e2 U ad W m R) (hm : ∀ k cs, m1 k = some cs → m k = some cs) (ap : bz bh R) (fF : ∀ k cs x j, m1 k = some cs → x ∈ cs → x.owns j → ∃ ar, m1 j = some ar) (hp : nv m1 bh) :
  (jb (eb (ad k)) (k8 ad m1 bh k)).ok U a7 W ∧ (∀ y ∈ (jb (eb (ad k)) (k8 ad m1 bh k)).aT, y.aY = true) ∧ ∀ g, (jb (eb (ad k)) (k8 ad m1 bh k)).own g → ¬ U g ∧ ∀ j cs, b3 j = some cs → a7 j ≠ g :=
 ⟨acq ((h.sub hm ap fF).none hp) hp, fun y ai => by simp at ai; subst ai; rfl, fun g aq => ⟨(h.sub hm ap fF).aca (Dv aq), fun j cs ae => (by cases ae)⟩⟩
theorem Sl {P : Program} {f : FuncId} {args : List ah} {ad : Nat → Nat} {m : Mem} {R : aI} {k off : Nat} {Post : ah → Mem → aI → Prop} {post : ah → e0 → Prop} (af : ∃ cs, m k = some cs) (eg : args.all ah.aY = true) (al : da P f (.w (.one (.own k off)) :: args) m R Post)
  (hp : ∀ v m1 bh, Post v m1 bh → v.aY = true ∧ nv m1 bh ∧ ∀ eT, eT k = ad k → post v (k8 eT m1 bh k)) : x9 P f (aQ (nw (ad k) off) :: args) (eb (ad k)) (k8 ad m R k) post := by
 intro i;refine agN af eg al i fun r m1 bh eT ov hQ v jJ jr cI pS => ?_;obtain ⟨c1, c2, hf⟩ := hp _ _ _ jJ;have ab := PV (a7 := eT) (k := k) cI (fun _ _ h => h) (bz.refl _) cI.fF c2;refine ⟨r, bt i (jb (eb (ad k)) (k8 eT m1 bh k)), ⟨_, rfl, rfl, hf eT jr⟩, c1, pS, ⟨fun k cs af => (by cases af), fun k cs x j af => (by cases af), fun k k' cs ar af => (by cases af), fun j q ae => ?_, fun j eR q cd ae jH bU => ?_⟩, ⟨_, by unfold bt; exact cl _ _ _⟩, ?_⟩
 ·obtain ⟨rfl, rfl⟩ := fI ae;rw [← jr]; exact ab
 ·obtain ⟨rfl, _⟩ := fI ae;obtain ⟨rfl, _⟩ := fI jH;exact absurd rfl bU
 ·rintro b (⟨j, cs, ae, _⟩ | ⟨j, q, ae, aq⟩)
  ·cases ae
  ·obtain ⟨rfl, rfl⟩ := fI ae;rw [← jr] at aq;exact Dv aq
theorem agM {P : Program} {f : FuncId} {args : List ah} {Post : ah → Mem → aI → Prop} {post : Value → e0 → Prop} (al : da P f args b3 gh Post)
  (hp : ∀ v m1 bh, Post v m1 bh → ∃ k, v = .w (.one (.own k 0)) ∧ nv m1 bh ∧ ∀ eT, post (eb (eT k)) (k8 eT m1 bh k)) : E0 P f args post := by
 intro i;refine ⟨fun U ad W vs cI cD cK => (al.call U ad W vs cI cD cK).mono ?_⟩;rintro e bf ⟨v, r, m1, bh, eT, ov, rfl, jJ, B1, pS, iV, bn, bY, cy, cz, ab⟩;obtain ⟨k, rfl, c2, hf⟩ := hp _ _ _ jJ;have X9 := PV (a7 := eT) (k := k) B1 (fun _ _ h => h) (bz.refl _) B1.fF c2;have hv : v = eb (eT k) := pS;refine ⟨v, aQ (eb (eT k)), b3, bt i (jb (eb (eT k)) (k8 eT m1 bh k)), eT, ov, rfl, ⟨_, _, rfl, rfl, rfl, hf eT⟩, ⟨fun k cs af => (by cases af), fun k cs x j af => (by cases af), fun k k' cs ar af => (by cases af), fun j q ae => ?_, fun j eR q cd ae jH bU => ?_⟩, ⟨hv, rfl⟩, fun j ae => absurd ae (ja _ j), fun k cs af => (by cases af), fun j q ae => (by cases ae), cy, fun b ab => ?_, ab⟩
 ·obtain ⟨rfl, rfl⟩ := fI ae;exact X9
 ·obtain ⟨rfl, _⟩ := fI ae;obtain ⟨rfl, _⟩ := fI jH;exact absurd rfl bU
 ·rcases ab with ⟨j, cs, ae, _⟩ | ⟨j, q, ae, aq⟩
  ·cases ae
  ·obtain ⟨rfl, rfl⟩ := fI ae;exact cz b (Dv aq)
section
variable {P : Program} {R : aI} {s : aC} {ops : Array Oper} {dr : Option (List Nat)} {ty : Nat} {pos : String} {after : Array Edge} {guard : Option (Nat × Bool)} {K : aI → aC → Prop} {rest : List Oper}
theorem zf (i : Nat) {dst : Option Nat} {f : FuncId} {g : Operand} {aM : Array TypeId} {l : List Operand} {args : List ah} {p : Value} {S : e0} {post : ah → e0 → Prop} [E : Enters P f] (hw : want ops ⟨dst, .call ⟨.value g, l.toArray, aM⟩, ty, pos, after, guard⟩ s = some true) (hm : dY dr ⟨dst, .call ⟨.value g, l.toArray, aM⟩, ty, pos, after, guard⟩ = true)
  (aq : s.look g = some (aQ (.func (.func f) #[] #[]))) (aJ : l.map s.look = args.map some) (hp : x9 P f args p S post) (hi : R i = some (jb p S)) (eg : args.all ah.aY = true) (hd : kT dst s.n = true)
  (h : ∀ v dh, post v dh → cJ P ops dr K rest (bG R i (jb p dh)) (s.put dst v)) : cJ P ops dr K (⟨dst, .call ⟨.value g, l.toArray, aM⟩, ty, pos, after, guard⟩ :: rest) R s := by
 refine u7 hw hm aq aJ (hp i) (fun x aa j ae => absurd ae (ah.dq (b6.1 eg x aa) j)) (fun k' ar aK => by cases aK) (fun fs aV aK => ?_) (fun k' ar x j aK aa ae => by cases aK) hd ?_
 ·obtain ⟨rfl, rfl⟩ := fI aK; exact hi
 ·rintro v aG ay ⟨dh, rfl, rfl, an⟩;refine ⟨fun k' c aK => (by cases aK), ?_⟩;rw [show bP (bt i (jb p dh)) R = bG R i (jb p dh) from vq R i _, tN];exact h v dh an
theorem NR (i : Nat) {dst : Option Nat} {f : FuncId} {g : Operand} {aM : Array TypeId} {l : List Operand} {args : List ah} {post : Value → e0 → Prop} [E : Enters P f] (hw : want ops ⟨dst, .call ⟨.value g, l.toArray, aM⟩, ty, pos, after, guard⟩ s = some true) (hm : dY dr ⟨dst, .call ⟨.value g, l.toArray, aM⟩, ty, pos, after, guard⟩ = true)
  (aq : s.look g = some (aQ (.func (.func f) #[] #[]))) (aJ : l.map s.look = args.map some) (hp : E0 P f args post) (eg : args.all ah.aY = true) (hd : kT dst s.n = true)
  (h : ∀ p S, post p S → cJ P ops dr K rest (bG R i (jb p S)) (s.put dst (aQ p))) : cJ P ops dr K (⟨dst, .call ⟨.value g, l.toArray, aM⟩, ty, pos, after, guard⟩ :: rest) R s := by
 refine u7 hw hm aq aJ (hp i) (fun x aa j ae => absurd ae (ah.dq (b6.1 eg x aa) j)) (fun k' ar aK => by cases aK) (fun fs aV aK => by cases aK) (fun k' ar x j aK aa ae => by cases aK) hd ?_;rintro v aG ay ⟨p, S, rfl, rfl, rfl, an⟩;refine ⟨fun k' c aK => (by cases aK), ?_⟩;rw [show bP (bt i (jb p S)) R = bG R i (jb p S) from vq R i _, tN];exact h p S an
end
section
variable {P : Program} {s : aC} {ops : Array Oper} {K : aC → Prop} {rest : List Oper} {ty : Nat} {pos : String} {after : Array Edge} {guard : Option (Nat × Bool)} {d : Nat}
theorem U2 {x : Operand} {b off : Nat} (hw : want ops ⟨some d, .nilCheck x, ty, pos, after, guard⟩ s = some true) (aa : s.look x = some (aQ (nw b off))) (hd : Nat.blt d s.n = true) (h : bc P ops K rest (s.put (some d) (aQ (nw b off)))) : bc P ops K (⟨some d, .nilCheck x, ty, pos, after, guard⟩ :: rest) s := by
 refine fS hw ⟨fun _ _ h => (by cases h), fun y ai => ?_, fun U ad W env he => ?_, fun j ae => absurd ae (ja _ j)⟩ hd h
 ·simp [Op.operands] at ai;subst ai;exact ⟨_, aa⟩
 ·have hv : env x = nw b off := (he x (by simp [Op.operands]) _ aa).1;exact ⟨_, by simp only [execOp, hv]; rfl, rfl, rfl⟩
theorem UI {x : Operand} {qa i b off h7 : Nat} [F : kM P qa i h7] (hw : want ops ⟨some d, .fieldAddr qa x i, ty, pos, after, guard⟩ s = some true) (aa : s.look x = some (aQ (nw b off))) (hd : Nat.blt d s.n = true) (h : bc P ops K rest (s.put (some d) (aQ (nw b (off + h7))))) : bc P ops K (⟨some d, .fieldAddr qa x i, ty, pos, after, guard⟩ :: rest) s := by
 refine fS (av := aQ (nw b (off + h7))) hw ⟨fun _ _ h => (by cases h), fun y ai => ?_, fun U ad W env he => ?_, fun j ae => absurd ae (ja _ j)⟩ hd h
 ·simp [Op.operands] at ai;subst ai;exact ⟨_, aa⟩
 ·have hp : env x = .pointer (some ⟨b, off, none⟩) := (he x (by simp [Op.operands]) _ aa).1;have hF := F.h;unfold s9 at hF
  split at hF
  ·rename_i bg hu;cases au : bg[i]? with
   | none => rw [au] at hF; cases hF
   | some f =>
    rw [au] at hF;simp only [kh] at hF;cases hi : P.info? f.type with
    | none => rw [hi] at hF; cases hF
    | some t =>
     rw [hi] at hF;simp only [kh] at hF
     split at hF
     ·cases hF
     ·rename_i bU;cases hF;refine ⟨.pointer (some ⟨b, off + f.offset, none⟩), ?_, rfl, rfl⟩;have ku : (⟨b, off, none⟩ : Addr).add f.offset = ⟨b, off + f.offset, none⟩ := by unfold Addr.add; split <;> simp_all
      simp only [execOp, Instr.fieldAt, hp, Instr.sureAddr, Sem.run_bind, Sem.run_pure, Result.andThen_ok, run_underlying hu, au, fieldPlace, hK hi, if_neg bU, ku]
  ·cases hF
theorem afF (n : Nat) {t e : TypeId} (hu : P.underlying t = some (.pointer e)) (a : Addr) (W : World) : (Op.equalIn (n + 1) t (.pointer (some a)) (.pointer none)).run P W = .ok false W := by
 simp [Op.equalIn, run_underlying hu]
theorem afG {t e : TypeId} (hu : P.underlying t = some (.pointer e)) (a : Addr) (W : World) : (Op.equal t (.pointer (some a)) (.pointer none)).run P W = .ok false W := afF 9999 hu a W
theorem afE {t e : TypeId} (hu : P.underlying t = some (.pointer e)) (a : Addr) (W : World) : (binOp .eql t (.pointer (some a)) (.pointer none)).run P W = .ok (.bool false) W := by
 simp only [binOp];simp [afG hu]
theorem Xz {op : BinOp} {t : TypeId} {x y : Operand} {a : Option Addr} {v : Value} : eqGuard op t x y (.pointer a) v = pure () := by cases op <;> rfl
def Og (P : Program) (t : TypeId) : Bool := match P.underlying t with
 | some (.pointer _) => true
 | _ => false
end
section
variable {P : Program} {s : aC} {ops : Array Oper} {K : aC → Prop} {rest : List Oper} {ty : Nat} {pos : String} {after : Array Edge} {guard : Option (Nat × Bool)} {d : Nat}
end
theorem e0.same {A B : e0} (h1 : A.holds = B.holds) (h2 : A.kW = B.kW) : A = B := by
 cases A; cases B; cases h1; cases h2; rfl
theorem AC.Ru {bC : Nat → Nat} (x : AC) : (x.aX bC).vt = x.vt := by cases x <;> rfl
theorem aeo {bC bV iu : Nat → Nat} (fr : ∀ j, bC (bC j) = j) (fE : ∀ j, bV (iu j) = j) {m : Mem} {R : aI} : nv (m.aX bC) (R.aX bV) ↔ nv m R := by
 constructor
 ·rintro ⟨h1, h2⟩;refine ⟨fun k cs af => ?_, fun i r hi => h2 (iu i) r (by unfold aI.aX; rw [fE]; exact hi)⟩;have := h1 _ _ (Mem.rh fr af);rw [List.all_map] at this;rw [b6] at this ⊢;exact fun x aa => (AC.Ru x).symm.trans (this x aa)
 ·rintro ⟨h1, h2⟩;refine ⟨fun k cs af => ?_, fun i r hi => h2 (bV i) r hi⟩;obtain ⟨ds, hd, rfl⟩ := Mem.ri af;have := h1 _ _ hd;rw [List.all_map];rw [b6] at this ⊢;exact fun x aa => (AC.Ru x).trans (this x aa)
theorem agO {bC bV iu : Nat → Nat} (fr : ∀ j, bC (bC j) = j) (fE : ∀ j, bV (iu j) = j) (vd : ∀ j, iu (bV j) = j) {ad : Nat → Nat} {m : Mem} {R : aI} {k : Nat} : k8 ad (m.aX bC) (R.aX bV) (bC k) = k8 (fun j => ad (bC j)) m R k := by
 refine e0.same ?_ ?_
 ·funext w v;show (v = eb (ad (bC k)) ∧ e2 tG ad w (m.aX bC) (R.aX bV) ∧ nv (m.aX bC) (R.aX bV)) = (v = eb (ad (bC k)) ∧ e2 tG (fun j => ad (bC j)) w m R ∧ nv m R);rw [propext (aeo fr fE), propext (e2.aX fr fE vd)]
 ·funext w v b;exact propext (ej.aX fr fE)
theorem eN {P : Program} {fn : Func} {l : List ResultVar} {xs : List bx} {R R0 bh : aI} {s : aC} {cs ar : List AC} {Post : ah → Mem → aI → Prop} (ap : fn.results = l.toArray) (h : l.map (iG P s) = xs.map some) (af : s.mem 1000 = some ar) (aw : bz bh R) (al : ar.all AC.aY = true) (aa : (packed xs).aY = true) (az : ∀ i r, R0 i = some r → ∃ aV, bh i = some aV)
  (hp : Post (packed xs) (cG 1000 ar) bh) : tm P fn (cG 1000 cs) R0 Post R s := by
 refine ⟨xs, packed xs, cG 1000 ar, bh, by rw [ap]; exact h, .refl _, hp, fun k c h => ?_, aw, fun j ae => absurd ae (ah.dq aa j), fun k c x j h aa ae => ?_, fun k c h => ?_, az⟩
 ·obtain ⟨rfl, rfl⟩ := hG h; exact af
 ·obtain ⟨rfl, rfl⟩ := hG h; exact absurd ae (AC.dq (b6.1 al x aa) j)
 ·obtain ⟨rfl, rfl⟩ := hG h; exact ⟨ar, by unfold cG; exact cl _ _ _⟩
theorem Ch (k : Nat) {P : Program} {fn : Func} {l : List ResultVar} {xs : List bx} {R bh : aI} {s : aC} {ar : List AC} {Post : ah → Mem → aI → Prop} (ap : fn.results = l.toArray) (h : l.map (iG P s) = xs.map some) (af : s.mem k = some ar) (aw : bz bh R) (al : ar.all AC.aY = true) (aa : (packed xs).xj k = true)
  (hp : Post (packed xs) (cG k ar) bh) : tm P fn b3 gh Post R s := by
 refine ⟨xs, packed xs, cG k ar, bh, by rw [ap]; exact h, .refl _, hp, fun k c h => ?_, aw, fun j ae => ?_, fun k c x j h zk ae => ?_, fun k c h => (by cases h), fun i r h => (by cases h)⟩
 ·obtain ⟨rfl, rfl⟩ := hG h; exact af
 ·rw [ah.acH aa ae]; exact ⟨ar, by unfold cG; exact cl _ _ _⟩
 ·obtain ⟨rfl, rfl⟩ := hG h; exact absurd ae (AC.dq (b6.1 al x zk) j)
section
variable {P : Program} {R : aI} {s : aC} {ops : Array Oper} {dr : Option (List Nat)} {ty : Nat} {pos : String} {after : Array Edge} {guard : Option (Nat × Bool)} {K : aI → aC → Prop} {rest : List Oper}
end
def pf (P : Program) (f : FuncId) (args : List ah) (post : ah → bE → Prop) : Prop :=
 ∀ i, da P f args b3 gh fun v aG ay => ∃ q, aG = b3 ∧ ay = bt i q ∧ 0 < q.sz ∧ post v q
theorem E2 {P : Program} {f : FuncId} {args : List ah} {post : ah → bE → Prop} (aJ : args.all ah.aY = true) (hp : ∀ v q, post v q → v.aY = true)
  (h : da P f args b3 gh fun v aG ay => ∃ q, aG = b3 ∧ ay = bt 0 q ∧ 0 < q.sz ∧ post v q) : pf P f args post := by
 intro i;have h1 := h.aX (bC := fun j => j) (bV := swp 0 i) (iu := swp 0 i) (fun _ => rfl) (mO _ _) (mO _ _);rw [Rq aJ, show Mem.aX (fun j => j) b3 = b3 from rfl, show aI.aX (swp 0 i) gh = gh from rfl] at h1;refine ⟨fun U ad W vs cI cD cK => (h1.call U ad W vs cI cD cK).mono ?_⟩;rintro e bf ⟨v1, cx, aG, ay, a7, cw, c0, ⟨dF, m2, fk, ⟨q, rfl, rfl, aN, an⟩, rfl, rfl, rfl⟩, l5⟩;rw [show Mem.aX (fun j => j) b3 = b3 from rfl, z8, tY (hp _ _ an)] at l5;exact ⟨v1, dF, b3, bt i q, a7, cw, c0, ⟨q, rfl, rfl, aN, an⟩, l5⟩
theorem yU {P : Program} {fn : Func} {l : List ResultVar} {xs : List bx} {R : aI} {s : aC} {q : bE} {post : ah → bE → Prop} (ap : fn.results = l.toArray) (h : l.map (iG P s) = xs.map some) (hi : R 0 = some q) (aa : (packed xs).aY = true) (y7 : 0 < q.sz)
  (hp : post (packed xs) q) : tm P fn b3 gh (fun v aG ay => ∃ q, aG = b3 ∧ ay = bt 0 q ∧ 0 < q.sz ∧ post v q) R s := by
 refine ⟨xs, packed xs, b3, bt 0 q, by rw [ap]; exact h, .refl _, ⟨q, rfl, rfl, y7, hp⟩, fun k c h => (by cases h), fun i r h => ?_, fun j ae => absurd ae (ah.dq aa j), fun k c x j h => (by cases h), fun k c h => (by cases h), fun i r h => (by cases h)⟩;obtain ⟨rfl, rfl⟩ := fI h; exact hi
section
variable {P : Program} {R : aI} {s : aC} {ops : Array Oper} {dr : Option (List Nat)} {ty : Nat} {pos : String} {after : Array Edge} {guard : Option (Nat × Bool)} {K : aI → aC → Prop} {rest : List Oper}
end
section
variable {P : Program} {U lf : Nat → Prop} {ad : Nat → Nat} {w : World}
theorem bE.ok.Sk {r : bE} (h : r.ok U ad w) (hs : 0 < r.sz) (AB : List AC) (ai : ∀ xs, bL U ad w r.aT xs → bL lf ad w AB xs) (al : ∀ y ∈ AB, y.aY = true) (di : ∀ b, r.own b → lf b) : gE lf ad w (.p (bX r.sz r.n AB)) r.v := by
 obtain ⟨xs, aA, GS⟩ := h.row hs;have ak := ai xs GS;have nY := ak.1;obtain ⟨kZ, ax | ⟨g, cap, cur, ky, qH, uW, eO, iS, eu, n3⟩⟩ := id aA
 ·obtain ⟨aF, aP⟩ := ax;have : AB = [] := jv (by rw [nY, kZ, aP]; simp);rw [aF];exact ⟨⟨none, 0, by rw [aP], by omega, by rw [this, aP]; simp, fun h => absurd h (by omega)⟩, fun b ⟨c', a', q, ax, ab⟩ => by cases q⟩
 ·have tj := aA.cells (g := g) (by rw [ky]; rfl);have Y6 : r.own g := .inl (by rw [ky]; rfl);rw [ky];have qE : kL w ⟨g, 0, none⟩ AB xs := ⟨(jU.1 uW).1, ak.wo al fun b _ _ => ⟨trivial, rfl⟩, tj, al⟩;refine ⟨⟨some ⟨g, 0, none⟩, cap, rfl, eO, by rw [nY]; exact kZ, fun ax => ⟨⟨g, 0, none⟩, xs, rfl, qE⟩⟩, ?_⟩;rintro b ⟨c', a', q, ax, au⟩;cases q;rcases au with rfl | ⟨j, y, v, ai, hv, gx⟩
  ·exact di g Y6
  ·have bb : j < xs.length := by rw [← nY]; exact (bA.1 ai).1
   have h2 := tj j _ (bJ bb);rw [hv] at h2;cases h2;have ao := ak.2 j y _ ai (bJ bb);cases y with
   | c u => cases gx
   | own k o => cases gx
   | p S => exact ao.2 b gx
def AP (r : ah) : Prop := ∀ (U cw : Nat → Prop) (ad a7 : Nat → Nat) (W bf : World) v, cX U ad W r v → cX cw a7 bf r v
def ul (aT : List AC) : Prop := ∀ (U cw : Nat → Prop) (ad a7 : Nat → Nat) (W bf : World) xs, bL U ad W aT xs → bL cw a7 bf aT xs
theorem ul.of {aT : List AC} (h : ∀ y ∈ aT, ∃ v, y = .c v) : ul aT := fun U cw ad a7 W bf xs aa => ⟨aa.1, fun i y v ai hv => by
 have h1 := aa.2 i y v ai hv;obtain ⟨u, rfl⟩ := h y (cV ai);exact h1⟩
theorem AP.one {v : Value} : AP (aQ v) := fun U cw ad a7 W bf u h => h
theorem Ye {f : FuncId} {args rB : List ah} {R0 : aI} {Post : ah → Mem → aI → Prop} (hp : da P f rB b3 gh Post) (al : rB.all ah.aY = true)
  (hv : ∀ U ad W vs, e2 U ad W b3 R0 → j6 U ad W args vs → j6 (fun b => U b ∨ ej ad b3 R0 b) ad W rB vs)
  (jJ : ∀ r aG bh, Post r aG bh → aG = b3 ∧ AP r ∧ r.aY = true ∧ ∀ i q, bh i = some q → 0 < q.sz ∧ ul q.aT) :
  da P f args b3 R0 fun r aG ay => ∃ bh, Post r b3 bh ∧ aG = b3 ∧ ay = bP bh R0 := by
 refine ⟨fun U ad W vs cI cD cK => ?_⟩;have XN : e2 (fun b => U b ∨ ej ad b3 R0 b) ad W b3 gh := ⟨fun k cs af => (by cases af), fun k cs x j af => (by cases af), fun k k' cs ar af => (by cases af), fun i q hi => (by cases hi), fun i j q cd hi => (by cases hi)⟩;have bb : ∀ i q g, R0 i = some q → q.own g → g < W.heap.size := fun i q g hi aq => (cI.rows i q hi).1.lt aq;refine (hp.call _ ad W vs XN (fun x aa j ae => absurd ae (ah.dq (b6.1 al x aa) j)) (hv U ad W vs cI cK)).mono ?_;rintro e bf ⟨v, r, aG, bh, a7, cw, rfl, h1, h2, ao, aD, cm, eQ, jE, pD, iP⟩;obtain ⟨rfl, au, n1, Zm⟩ := jJ r aG bh h1
 have zg : ∀ b, b < W.heap.size → bf.heap[b]? = W.heap[b]? := fun b ab => iP.block b ⟨ab, by
  rintro (⟨k, cs, af, _⟩ | ⟨i, q, hi, _⟩)
  ·cases af
  ·cases hi⟩
 have pP : ∀ i q g, bh i = some q → q.own g → W.heap.size ≤ g := fun i q g hi aq => (pD g (.inr ⟨i, q, hi, aq⟩)).elim (fun h => by
  rcases h with ⟨k, cs, af, _⟩ | ⟨i, q, hi, _⟩
  ·cases af
  ·cases hi) id
 refine ⟨v, r, b3, bP bh R0, a7, fun b => U b ∧ b < W.heap.size, rfl, ⟨bh, h1, rfl, rfl⟩, ⟨fun k cs af => (by cases af), fun k cs x j af => (by cases af), fun k k' cs ar af => (by cases af), fun i q hi => ?_, fun i j q cd hi ae gH g aq dW => ?_⟩, au _ _ _ _ _ _ v ao, fun j ae => absurd ae (ah.dq n1 j), fun k cs af => (by cases af), fun i q hi => ?_, fun b ab => .inl ab.1, fun b ab => ?_, ⟨iP.os, iP.tape, iP.output, iP.size, fun b ab => zg b ab.1⟩⟩
 ·rcases jP hi with hi | ⟨_, hi⟩
  ·obtain ⟨q1, q2, bR⟩ := h2.rows i q hi;obtain ⟨h3, z2⟩ := Zm i q hi;obtain ⟨xs, aA, ak⟩ := q1.row h3;exact ⟨.inl ⟨h3, xs, aA, z2 _ _ _ _ _ _ xs ak⟩, q2, fun g aq => ⟨fun hu => by have := pP i q g hi aq; have := hu.2; omega, fun k cs af => by cases af⟩⟩
  ·obtain ⟨q1, q2, bR⟩ := cI.rows i q hi;exact ⟨q1.kept q2 (fun g aq => zg g (bb i q g hi aq)) iP.size fun b ab ak => ⟨⟨ab, ak⟩, zg b ak⟩, q2, fun g aq => ⟨fun hu => (bR g aq).1 hu.1, fun k cs af => by cases af⟩⟩
 ·rcases jP hi with hi | ⟨_, hi⟩ <;> rcases jP ae with ae | ⟨_, ae⟩
  ·exact h2.apart i j q cd hi ae gH g aq dW
  ·have := pP i q g hi aq; have := bb j cd g ae dW; omega
  ·have := pP j cd g ae dW; have := bb i q g hi aq; omega
  ·exact cI.apart i j q cd hi ae gH g aq dW
 ·cases an : bh i with
  | some x => exact ⟨x, hH an⟩
  | none => exact ⟨q, by rw [hI an]; exact hi⟩
 ·rcases ab with ⟨k, cs, af, _⟩ | ⟨i, q, hi, aq⟩
  ·cases af
  ·rcases jP hi with hi | ⟨_, hi⟩
   ·exact .inr (pP i q b hi aq)
   ·exact .inl (.inr ⟨i, q, hi, aq⟩)
end
section
variable {P : Program} {R : aI} {s : aC} {ops : Array Oper} {dr : Option (List Nat)} {ty : Nat} {pos : String} {after : Array Edge} {guard : Option (Nat × Bool)} {K : aI → aC → Prop} {rest : List Oper}
theorem NM {dst : Option Nat} {f : FuncId} {g : Operand} {aM : Array TypeId} {l : List Operand} {args : List ah} {R0 : aI} {Post : ah → Mem → aI → Prop} [E : Enters P f] (hw : want ops ⟨dst, .call ⟨.value g, l.toArray, aM⟩, ty, pos, after, guard⟩ s = some true) (hm : dY dr ⟨dst, .call ⟨.value g, l.toArray, aM⟩, ty, pos, after, guard⟩ = true)
  (aq : s.look g = some (aQ (.func (.func f) #[] #[]))) (aJ : l.map s.look = args.map some) (hp : da P f args b3 R0 Post) (ap : bz R0 R) (eg : args.all ah.aY = true) (hd : kT dst s.n = true)
  (h : ∀ r aG ay, Post r aG ay → aG = b3 ∧ cJ P ops dr K rest (bP ay R) (s.put dst r)) : cJ P ops dr K (⟨dst, .call ⟨.value g, l.toArray, aM⟩, ty, pos, after, guard⟩ :: rest) R s := by
 refine u7 hw hm aq aJ hp (fun x aa j ae => absurd ae (ah.dq (b6.1 eg x aa) j)) (fun k' ar aK => by cases aK) ap (fun k' ar x j aK aa ae => by cases aK) hd ?_;rintro r aG ay an;obtain ⟨rfl, aK⟩ := h r aG ay an;refine ⟨fun k' ar aK => (by cases aK), ?_⟩;have cq : s.over b3 = s := rfl;rw [cq]; exact aK
end
def iO (g e : Nat) (cs : List AC) : bE := ⟨e, cs.length, .slice (some ⟨g, 0, none⟩) 1 1, 1, cs⟩
theorem uH {g e : Nat} {cs : List AC} (aN : 0 < cs.length) {b : Nat} : (iO g e cs).own b ↔ b = g := by
 constructor
 ·intro h;have h := bE.oV h (by exact aN);have : (some g : Option Nat) = some b := h;exact (ny this).symm
 ·rintro rfl; exact .inl rfl
theorem K7 {U : Nat → Prop} {ad : Nat → Nat} {W : World} {g e : Nat} {cs : List AC} (aN : 0 < cs.length) : (iO g e cs).ok U ad W ↔ ∃ vs : List Value, W.heap[g]? = some (.cells vs.toArray e (0, 0)) ∧ bL U ad W cs vs := by
 constructor
 ·intro h;obtain ⟨xs, ⟨ak, aR⟩, ap⟩ := h.row aN;rcases aR with ⟨az, _⟩ | ⟨jn, cap, cur, hv, _, uW, _, _, al, hD⟩
  ·cases az
  ·cases hv;have al : cur.size = 1 * cs.length := al;have hD : cur.toList.take (1 * cs.length) = xs := hD;have aF : cur.toList = xs := by rw [← hD]; exact (gn (by rw [Array.length_toList]; omega)).symm
   refine ⟨xs, ?_, ap⟩;rw [← aF, Array.toArray_toList];exact uW
 ·rintro ⟨vs, h1, h2⟩;have ak := h2.1;refine .inl ⟨aN, vs, ⟨by show vs.length = 1 * cs.length; omega, .inr ⟨g, 1, vs.toArray, rfl, dx _, h1, dE _, by unfold maxLen; decide, by show vs.length = 1 * cs.length; omega, ?_⟩⟩, h2⟩;show vs.take (1 * cs.length) = vs;exact gn (by omega)
theorem th {ad : Nat → Nat} {k g e i : Nat} {cs : List AC} {R : aI} (aN : 0 < cs.length) (hi : R i = none) (af : ad k = g) {b : Nat} {a7 : Nat → Nat} : ej ad (cG k cs) R b ↔ ej a7 b3 (bG R i (iO g e cs)) b := by
 constructor
 ·rintro (⟨k', ar, h1, h2⟩ | ⟨j, r, h1, h2⟩)
  ·obtain ⟨rfl, rfl⟩ := hG h1;exact .inr ⟨i, _, cl _ _ _, (uH aN).2 (h2.symm.trans af)⟩
  ·have : j ≠ i := fun e => by subst e; rw [hi] at h1; cases h1
   exact .inr ⟨j, r, by rw [b9 _ _ this]; exact h1, h2⟩
 ·rintro (⟨k', ar, h1, h2⟩ | ⟨j, r, h1, h2⟩)
  ·cases h1
  ·by_cases lh : j = i
   ·subst lh;rw [cl] at h1;cases h1;exact .inl ⟨k, cs, by unfold cG; exact cl _ _ _, af.trans ((uH aN).1 h2).symm⟩
   ·rw [b9 _ _ lh] at h1;exact .inr ⟨j, r, h1, h2⟩
theorem Nd {U : Nat → Prop} {ad a7 : Nat → Nat} {W : World} {k g e i : Nat} {cs : List AC} {R : aI} (aN : 0 < cs.length) (al : cs.all AC.aY = true) (hi : R i = none) (af : ad k = g) (h : e2 U a7 W b3 (bG R i (iO g e cs))) : e2 U ad W (cG k cs) R := by
 have bU : ∀ {j r}, R j = some r → j ≠ i := fun {j r} h1 e => by subst e; rw [hi] at h1; cases h1
 obtain ⟨h1, h2, ao⟩ := h.rows i _ (cl _ _ _);obtain ⟨vs, w1, w2⟩ := (K7 aN).1 h1;have cC := b6.1 al;refine ⟨fun k' ar eI => ?_, fun k' ar x j eI aa ae => ?_, fun bn bY c1 c2 h1 h2 _ => ?_, fun j r ae => ?_, fun j eR r q ae jH Cu => ?_⟩
 ·obtain ⟨rfl, rfl⟩ := hG eI;exact ⟨vs, e, by rw [af]; exact w1, w2.map (fun b ab _ => ⟨ab, rfl⟩) fun j x aa ae => absurd ae (AC.dq (cC x aa) j), by rw [af]; exact (ao g ((uH aN).2 rfl)).1⟩
 ·obtain ⟨rfl, rfl⟩ := hG eI;exact absurd ae (AC.dq (cC x aa) j)
 ·exact (hG h1).1.trans (hG h2).1.symm
 ·obtain ⟨q1, q2, bR⟩ := h.rows j r (by rw [b9 _ _ (bU ae)]; exact ae);refine ⟨q1.kept q2 (fun _ _ => rfl) (dE _) (fun b ab _ => ⟨ab, rfl⟩), q2, fun b ab => ⟨(bR b ab).1, fun k' ar eI e => ?_⟩⟩;obtain ⟨rfl, rfl⟩ := hG eI;exact h.apart i j _ r (cl _ _ _) (by rw [b9 _ _ (bU ae)]; exact ae) (Ne.symm (bU ae)) b ((uH aN).2 (e.symm.trans af)) ab
 ·exact h.apart j eR r q (by rw [b9 _ _ (bU ae)]; exact ae) (by rw [b9 _ _ (bU jH)]; exact jH) Cu
theorem K6 {U : Nat → Prop} {ad a7 : Nat → Nat} {W : World} {k i : Nat} {cs : List AC} {R : aI} (aN : 0 < cs.length) (al : cs.all AC.aY = true) (hi : R i = none) (h : e2 U ad W (cG k cs) R) : ∃ e, e2 U a7 W b3 (bG R i (iO (ad k) e cs)) := by
 have bU : ∀ {j r}, R j = some r → j ≠ i := fun {j r} h1 e => by subst e; rw [hi] at h1; cases h1
 have oG : cG k cs k = some cs := by unfold cG; exact cl _ _ _
 obtain ⟨vs, e, w1, w2, w3⟩ := h.dC k cs oG;have cC := b6.1 al
 have D4 : ∀ {j q}, bG R i (iO (ad k) e cs) j = some q → (j = i ∧ q = iO (ad k) e cs) ∨ (j ≠ i ∧ R j = some q) := fun {j q} ae => by
  by_cases lh : j = i
  ·subst lh; rw [cl] at ae; cases ae; exact .inl ⟨rfl, rfl⟩
  ·rw [b9 _ _ lh] at ae; exact .inr ⟨lh, ae⟩
 refine ⟨e, fun k' ar eI => (by cases eI), fun k' ar x j eI => (by cases eI), fun bn bY c1 c2 h1 => (by cases h1), fun j q ae => ?_, fun j eR q cd ae jH Cu b ab dc => ?_⟩
 ·rcases D4 ae with ⟨rfl, rfl⟩ | ⟨_, wS⟩
  ·refine ⟨(K7 aN).2 ⟨vs, w1, w2.map (fun b ab _ => ⟨ab, rfl⟩) fun j x aa ae => absurd ae (AC.dq (cC x aa) j)⟩, cC, fun b ab => ⟨?_, fun k' ar eI => (by cases eI)⟩⟩;rw [(uH aN).1 ab]; exact w3
  ·obtain ⟨q1, q2, bR⟩ := h.rows j q wS;exact ⟨q1.kept q2 (fun _ _ => rfl) (dE _) (fun b ab _ => ⟨ab, rfl⟩), q2, fun b ab => ⟨(bR b ab).1, fun k' ar eI => (by cases eI)⟩⟩
 ·rcases D4 ae with ⟨rfl, rfl⟩ | ⟨_, wS⟩
  ·rcases D4 jH with ⟨rfl, rfl⟩ | ⟨_, GP⟩
   ·exact Cu rfl
   ·rw [(uH aN).1 ab] at dc;exact ((h.rows eR cd GP).2.2 _ dc).2 k cs oG rfl
  ·rcases D4 jH with ⟨rfl, rfl⟩ | ⟨_, GP⟩
   ·rw [(uH aN).1 dc] at ab;exact ((h.rows j q wS).2.2 _ ab).2 k cs oG rfl
   ·exact h.apart j eR q cd wS GP Cu b ab dc
theorem da.agS {P : Program} {f : FuncId} {args : List ah} {k : Nat} {cs : List AC} {R0 : aI} {Post : ah → Mem → aI → Prop} (i : Nat) (g e : Nat) (h : da P f (.w (.one (.own k 0)) :: args) (cG k cs) R0 Post) (eg : args.all ah.aY = true) (eu : cs.all AC.aY = true) (aN : 0 < cs.length) (hi : R0 i = none)
  (hp : ∀ v aG ay, Post v aG ay → v.aY = true ∧ ay i = none ∧ ∃ ar, aG = cG k ar ∧ ar.all AC.aY = true ∧ 0 < ar.length) :
  da P f (aQ (eb g) :: args) b3 (bG R0 i (iO g e cs)) fun v aG ay => ∃ ar bh bo, Post v (cG k ar) bh ∧ aG = b3 ∧ ay = bG bh i (iO g bo ar) := by
 refine ⟨fun U ad W vs cI cD cK => ?_⟩
 let eT : Nat → Nat := fun j => if j = k then g else ad j
 have qM : eT k = g := if_pos rfl;have EG := Nd (ad := eT) aN eu hi qM cI;obtain ⟨hlen, hv⟩ := cK
 match vs, hlen with
 | v0 :: vs, hlen =>
  have oJ : v0 = eb g := (hv 0 _ v0 rfl rfl).1;have u6 : j6 U eT W args vs := j6.closed eg ⟨by simpa using hlen, fun j x v aa bQ => hv (j + 1) x v aa bQ⟩;refine (h.call U eT W (v0 :: vs) EG (fun x aa j ae => ?_) ⟨by simpa using hlen, fun j x v aa bQ => ?_⟩).mono ?_
  ·rcases gj.1 aa with rfl | aa
   ·obtain ⟨y, ai, ae⟩ := ae;simp [bx.cells] at ai;subst ai;cases ae;exact ⟨cs, by unfold cG; exact cl _ _ _⟩
   ·exact absurd ae (ah.dq (b6.1 eg x aa) j)
  ·match j with
   | 0 => cases aa; cases bQ; exact Ra (off := 0) (oJ.trans (by rw [qM]))
   | j + 1 => exact u6.2 j x v aa bQ
  ·rintro cq bf ⟨v, r, aG, ay, a7, cw, rfl, jJ, mq, pS, iV, bn, bY, cy, cz, ab⟩;obtain ⟨c1, ax, ar, rfl, c2, hf⟩ := hp _ _ _ jJ;have eI : a7 k = g := (bn k cs (by unfold cG; exact cl _ _ _)).1.trans qM;obtain ⟨bo, AR⟩ := K6 (a7 := a7) hf c2 ax mq;rw [eI] at AR;refine ⟨v, r, b3, bG ay i (iO g bo ar), a7, cw, rfl, ⟨ar, ay, bo, jJ, rfl, rfl⟩, AR, pS, fun j ae => absurd ae (ah.dq c1 j), fun gJ gQ az => (by cases az), fun j gM ae => ?_, fun b dc => ?_, fun b dc => ?_, ⟨ab.os, ab.tape, ab.output, ab.size, fun b au => ab.block b ⟨au.1, fun aR => au.2 ((th aN hi qM).1 aR)⟩⟩⟩
   ·by_cases lh : j = i
    ·subst lh; exact ⟨_, cl _ _ _⟩
    ·rw [b9 _ _ lh] at ae;obtain ⟨q, an⟩ := bY j gM ae;exact ⟨q, by rw [b9 _ _ lh]; exact an⟩
   ·rcases cy b dc with q | q | q
    ·exact .inl q
    ·exact .inr (.inl q)
    ·exact .inr (.inr ((th aN hi qM).1 q))
   ·rcases cz b ((th hf ax eI).2 dc) with q | q
    ·exact .inl ((th aN hi qM).1 q)
    ·exact .inr q
theorem da.agR {P : Program} {f : FuncId} {args : List ah} {k : Nat} {cs : List AC} {R0 : aI} {Post : ah → Mem → aI → Prop} (i : Nat) (h : ∀ g e, da P f (aQ (eb g) :: args) b3 (bG R0 i (iO g e cs)) fun v aG ay => ∃ ar bh bo, Post v (cG k ar) bh ∧ aG = b3 ∧ ay = bG bh i (iO g bo ar))
  (eg : args.all ah.aY = true) (eu : cs.all AC.aY = true) (aN : 0 < cs.length) (hi : R0 i = none) (hp : ∀ v ar ay, Post v (cG k ar) ay → v.aY = true ∧ ay i = none ∧ ar.all AC.aY = true ∧ 0 < ar.length) :
  da P f (.w (.one (.own k 0)) :: args) (cG k cs) R0 Post := by
 refine ⟨fun U ad W vs cI cD cK => ?_⟩;obtain ⟨e, EG⟩ := K6 (a7 := ad) aN eu hi cI;obtain ⟨hlen, hv⟩ := cK
 match vs, hlen with
 | v0 :: vs, hlen =>
  have oJ : v0 = eb (ad k) := hv 0 _ v0 rfl rfl;have u6 : j6 U ad W args vs := j6.closed eg ⟨by simpa using hlen, fun j x v aa bQ => hv (j + 1) x v aa bQ⟩;refine ((h (ad k) e).call U ad W (v0 :: vs) EG (fun x aa j ae => ?_) ⟨by simpa using hlen, fun j x v aa bQ => ?_⟩).mono ?_
  ·rcases gj.1 aa with rfl | aa
   ·exact absurd ae (ja _ j)
   ·exact absurd ae (ah.dq (b6.1 eg x aa) j)
  ·match j with
   | 0 => cases aa; cases bQ; exact ⟨oJ, by rfl⟩
   | j + 1 => exact u6.2 j x v aa bQ
  ·rintro cq bf ⟨v, r, aG, ay, a7, cw, rfl, ⟨ar, bh, bo, jJ, rfl, rfl⟩, mq, pS, iV, bn, bY, cy, cz, ab⟩;obtain ⟨c1, ax, c2, hf⟩ := hp _ _ _ jJ
   let AE : Nat → Nat := fun j => if j = k then ad k else a7 j
   have Cm : AE k = ad k := if_pos rfl;have AR := Nd (ad := AE) hf c2 ax Cm mq;refine ⟨v, r, cG k ar, bh, AE, cw, rfl, jJ, AR, ?_, fun j ae => absurd ae (ah.dq c1 j), fun gJ gQ az => ?_, fun j gM ae => ?_, fun b dc => ?_, fun b dc => ?_, ⟨ab.os, ab.tape, ab.output, ab.size, fun b au => ab.block b ⟨au.1, fun aR => au.2 ((th aN hi rfl).2 aR)⟩⟩⟩
   ·exact pS.map (fun b ab _ => ⟨ab, rfl⟩) fun j ae => absurd ae (ah.dq c1 j)
   ·obtain ⟨rfl, rfl⟩ := hG az;exact ⟨Cm, ar, by unfold cG; exact cl _ _ _⟩
   ·have jH : j ≠ i := fun e => by subst e; rw [hi] at ae; cases ae
    obtain ⟨q, an⟩ := bY j gM (by rw [b9 _ _ jH]; exact ae);rw [b9 _ _ jH] at an;exact ⟨q, an⟩
   ·rcases cy b dc with q | q | q
    ·exact .inl q
    ·exact .inr (.inl q)
    ·exact .inr (.inr ((th aN hi rfl).2 q))
   ·rcases cz b ((th hf ax Cm).1 dc) with q | q
    ·exact .inl ((th aN hi rfl).2 q)
    ·exact .inr q
end Go.Proofs.YtbcecodakfejaaaGreat
