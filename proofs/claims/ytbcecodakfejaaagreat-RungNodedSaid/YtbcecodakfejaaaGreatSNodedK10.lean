/-
  My own texts, without what this claim does not need. My own text.
-/
import Derived.Lib.SliceRun
import Derived.Test.YtbcecodakfejaaaGreatSNodedK9
set_option maxRecDepth 100000
set_option maxHeartbeats 64000000
set_option linter.unusedVariables false
set_option linter.unusedSimpArgs false
set_option linter.unusedSectionVars false
open Go.Proofs.Tryz renaming prog → ag
namespace Go.Proofs.YtbcecodakfejaaaGreat
open Go.RowKit
def qS (a1 a2 b1 b2 k : Int) (p : ao) : Bool := w6 a1 a2 b1 b2 p.1 p.2 k
def S6 (l : List ao) (n : Nat) (R : aI) (aL : List (Nat × ah)) (bd : List (Nat × List AC)) : Prop :=
 ∃ (k : Nat) (v : Value) (ef : Int), k ≤ l.length ∧ n = l.length - k ∧ ef = k ∧ R = br 0 (q4 v (l.take k)) ∧ bd = [] ∧ aL = [(3, aR v), (6, gA l), (7, aH l.length), (8, aH ef)]
theorem PI {l : List ao} (ak : l.length ≤ 50000) : aC ag 15 [gA l] (gA l) := by
 refine bm (f := 15) Tryz.func15 rfl rfl rfl rfl ?_;refine ow ?_;refine lH 0 40 2 rfl ?_;(refine a7 ?_);refine jz 18 (S6 l) l.length (br 0 (q4 (.slice none 0 0) [])) _ [] ⟨0, .slice none 0 0, 0, dC _, rfl, rfl, rfl, rfl, rfl⟩ (jx _ _ _) rfl ⟨rfl, rfl, rfl, rfl, trivial⟩ trivial rfl ?_;rintro n R aL bd ⟨k, v, ef, af, rfl, jR, rfl, rfl, rfl⟩ c0;clear c0;have vm : (l.take k).length ≤ k := by rw [dK]; omega
 by_cases al : k < l.length
 ·have q2 : ef < (l.length : Int) := by omega
  have bO : 0 ≤ ef := by omega
  obtain ⟨x, y, g1⟩ : ∃ x y, l[k]? = some (x, y) := ⟨_, _, bN al⟩;have jE := pR jR g1
  have aB : l.take (k + 1) = l.take k ++ [(x, y)] := by
   rw [j3 al, (bM.1 g1).2]
  (refine a7 ?_);refine nr 0 rfl rfl rfl rfl ?q1 ?q2 rfl rfl (fun v' bR => ?_)
  case q1 => exact iY (by show (l.take k).length + 1 ≤ 1000000; omega)
  case q2 => show ((l.take k).length + 1) * 16 ≤ 140737488355328; omega
  (refine a7 ?_);refine ⟨l.length - (k + 1), br 0 (q4 v' (l.take (k + 1))), _, [], by omega, ⟨k + 1, v', ef + 1, by omega, rfl, by omega, rfl, rfl, rfl⟩, ?_, rfl, ⟨rfl, rfl, rfl, rfl, trivial⟩, trivial, rfl⟩;rw [aB, PE]; exact jx _ _ _
 ·have q2 : ¬ ef < (l.length : Int) := by omega
  have cX : l.take k = l := gn (by omega);rw [cX];refine xN 0 3 (q4 v l) rfl rfl ?_;(refine a7 ?_)
  ((refine bc rfl (bf rfl aN) ?_))
  exact ah.aQ.refl _
end Go.Proofs.YtbcecodakfejaaaGreat
namespace Go.Proofs.YtbcecodakfejaaaGreat
def ss (a b x yF t : Rat) : Prop := -yF ≤ 2 * a + t * (2 * (b - a)) - x ∧ 2 * a + t * (2 * (b - a)) - x ≤ yF
def nx (S p q x u : Rat) : Prop := 2 * (S * x) - S ≤ 2 * (S * p + u * (S * q - S * p)) ∧ 2 * (S * p + u * (S * q - S * p)) < 2 * (S * x) + S
theorem Pb {a b p q x S d t1 t2 u : Rat} (h1 : ss a b (2 * (S * p)) (d * S) t1) (h2 : ss a b (2 * (S * q)) (d * S) t2) (kz : 0 ≤ u) (b3 : u ≤ 1) (hm : nx S p q x u) : ss a b (2 * (S * x)) ((d + 1) * S) (t1 + u * (t2 - t1)) := by
 obtain ⟨a1, a2⟩ := h1;obtain ⟨b1, b2⟩ := h2;obtain ⟨m1, m2⟩ := hm;have v0 : 0 ≤ 1 - u := by grind
 have bl := kw v0 (show 0 ≤ 2 * a + t1 * (2 * (b - a)) - 2 * (S * p) + d * S by grind);have bJ := kw v0 (show 0 ≤ d * S - (2 * a + t1 * (2 * (b - a)) - 2 * (S * p)) by grind);have e6 := kw kz (show 0 ≤ 2 * a + t2 * (2 * (b - a)) - 2 * (S * q) + d * S by grind);have gH := kw kz (show 0 ≤ d * S - (2 * a + t2 * (2 * (b - a)) - 2 * (S * q)) by grind)
 constructor
 ·grind
 ·grind
theorem Pc {a b x f g t : Rat} (tu : f ≤ g) (h : ss a b x f t) : ss a b x g t := by
 obtain ⟨h1, h2⟩ := h
 constructor <;> grind
abbrev bn (n : Int) : Rat := (n : Rat)
def xu (a1 a2 b1 b2 S : Int) (yF t : Rat) (v : ao) : Prop := ss (bn a1) (bn b1) (2 * (bn S * bn v.1)) yF t ∧ ss (bn a2) (bn b2) (2 * (bn S * bn v.2)) yF t
def qj (S : Int) (p q : ao) (u : Rat) (x : ao) : Prop := (0 ≤ u ∧ u ≤ 1) ∧ nx (bn S) (bn p.1) (bn q.1) (bn x.1) u ∧ nx (bn S) (bn p.2) (bn q.2) (bn x.2) u
theorem abS {a1 a2 b1 b2 S : Int} {d t1 t2 u : Rat} {p q x : ao} (h1 : xu a1 a2 b1 b2 S (d * bn S) t1 p) (h2 : xu a1 a2 b1 b2 S (d * bn S) t2 q) (hm : qj S p q u x) : xu a1 a2 b1 b2 S ((d + 1) * bn S) (t1 + u * (t2 - t1)) x :=
 ⟨Pb h1.1 h2.1 hm.1.1 hm.1.2 hm.2.1, Pb h1.2 h2.2 hm.1.1 hm.1.2 hm.2.2⟩
theorem abT {a1 a2 b1 b2 S : Int} {f g t : Rat} {v : ao} (tu : f ≤ g) (h : xu a1 a2 b1 b2 S f t v) : xu a1 a2 b1 b2 S g t v := ⟨Pc tu h.1, Pc tu h.2⟩
theorem q6 {a b : Int} : bn a ≤ bn b ↔ a ≤ b := Rat.intCast_le_intCast
theorem Is {a b : Int} : bn a < bn b ↔ a < b := Rat.intCast_lt_intCast
theorem p5 {a : Int} (h : 0 < a) : 0 < bn a := by have := Is.2 h; simpa [bn] using this
theorem DS {a b : Int} (h : a < b) : bn a + 1 ≤ bn b := by
 have := q6.2 (show a + 1 ≤ b from h);simpa [bn, sF] using this
theorem OH {S p q x y : Int} {u w : Rat} (hS : 0 < S) (aa : nx (bn S) (bn p) (bn q) (bn x) u) (ai : nx (bn S) (bn p) (bn q) (bn y) w) (im : x < y) (ik : p ≤ q) : u ≤ w := by
 have er := p5 hS;obtain ⟨ct, cz⟩ := aa;obtain ⟨kL, qd⟩ := ai;have h1 := DS im;have h2 := q6.2 ik;have bl := kw (Rat.le_of_lt er) (show 0 ≤ bn y - (bn x + 1) by grind);refine Rat.not_lt.1 fun Zc => ?_;have bJ := kw (show 0 ≤ u - w by grind) (kw (Rat.le_of_lt er) (show 0 ≤ bn q - bn p by grind));grind
theorem OG {S p q x y : Int} {u w : Rat} (hS : 0 < S) (aa : nx (bn S) (bn p) (bn q) (bn x) u) (ai : nx (bn S) (bn p) (bn q) (bn y) w) (im : y < x) (ik : q ≤ p) : u ≤ w := by
 have er := p5 hS;obtain ⟨ct, cz⟩ := aa;obtain ⟨kL, qd⟩ := ai;have h1 := DS im;have h2 := q6.2 ik;have bl := kw (Rat.le_of_lt er) (show 0 ≤ bn x - (bn y + 1) by grind);refine Rat.not_lt.1 fun Zc => ?_;have bJ := kw (show 0 ≤ u - w by grind) (kw (Rat.le_of_lt er) (show 0 ≤ bn p - bn q by grind));grind
theorem C9 {S p q x y : Int} {u w : Rat} (hS : 0 < S) (aa : nx (bn S) (bn p) (bn q) (bn x) u) (ai : nx (bn S) (bn p) (bn q) (bn y) w) (r8 : u ≤ w) (ik : p ≤ q) : x ≤ y := by
 have er := p5 hS;obtain ⟨ct, cz⟩ := aa;obtain ⟨kL, qd⟩ := ai;refine Int.not_lt.1 fun Hd => ?_;have h1 := DS Hd;have h2 := q6.2 ik;have bl := kw (Rat.le_of_lt er) (show 0 ≤ bn x - (bn y + 1) by grind);have bJ := kw (show 0 ≤ w - u by grind) (kw (Rat.le_of_lt er) (show 0 ≤ bn q - bn p by grind));grind
theorem C8 {S p q x y : Int} {u w : Rat} (hS : 0 < S) (aa : nx (bn S) (bn p) (bn q) (bn x) u) (ai : nx (bn S) (bn p) (bn q) (bn y) w) (r8 : u ≤ w) (ik : q ≤ p) : y ≤ x := by
 have er := p5 hS;obtain ⟨ct, cz⟩ := aa;obtain ⟨kL, qd⟩ := ai;refine Int.not_lt.1 fun Hd => ?_;have h1 := DS Hd;have h2 := q6.2 ik;have bl := kw (Rat.le_of_lt er) (show 0 ≤ bn y - (bn x + 1) by grind);have bJ := kw (show 0 ≤ w - u by grind) (kw (Rat.le_of_lt er) (show 0 ≤ bn p - bn q by grind));grind
theorem OD {S p q : Int} (hS : 0 < S) : nx (bn S) (bn p) (bn q) (bn p) 0 := by
 have er := p5 hS
 constructor <;> grind
theorem OE {S p q : Int} (hS : 0 < S) : nx (bn S) (bn p) (bn q) (bn q) 1 := by
 have er := p5 hS
 constructor <;> grind
theorem C7 {S p q x : Int} {u : Rat} (hS : 0 < S) (aD : 0 ≤ u) (h1 : u ≤ 1) (aa : nx (bn S) (bn p) (bn q) (bn x) u) : (p ≤ q → p ≤ x ∧ x ≤ q) ∧ (q ≤ p → q ≤ x ∧ x ≤ p) :=
 ⟨fun h => ⟨C9 hS (OD hS) aa aD h, C9 hS aa (OE hS) h1 h⟩, fun h => ⟨C8 hS aa (OE hS) h1 h, C8 hS (OD hS) aa aD h⟩⟩
theorem Ox {S : Int} {p q x y : ao} {u w : Rat} (hS : 0 < S) (aa : qj S p q u x) (ai : qj S p q w y) (h : dL (decide (S * q.1 < S * p.1)) (decide (S * q.2 < S * p.2)) x y = true) : u ≤ w := by
 have aF : (S * q.1 < S * p.1) ↔ q.1 < p.1 := ⟨fun h => Int.lt_of_mul_lt_mul_left h (by omega), fun h => Int.mul_lt_mul_of_pos_left h hS⟩;have aM : (S * q.2 < S * p.2) ↔ q.2 < p.2 := ⟨fun h => Int.lt_of_mul_lt_mul_left h (by omega), fun h => Int.mul_lt_mul_of_pos_left h hS⟩;rw [ym] at h;simp only [cq, aF, aM] at h;rcases h with h | ⟨he, h⟩
 ·by_cases g : q.1 < p.1
  ·rw [if_pos g] at h; exact OG hS aa.2.1 ai.2.1 h (by omega)
  ·rw [if_neg g] at h; exact OH hS aa.2.1 ai.2.1 h (by omega)
 ·by_cases g : q.2 < p.2
  ·rw [if_pos g] at h; exact OG hS aa.2.2 ai.2.2 h (by omega)
  ·rw [if_neg g] at h; exact OH hS aa.2.2 ai.2.2 h (by omega)
theorem Yw {a b l n d u : Rat} (d0 : 0 < d) (hu : u * d = n) (h : 0 ≤ (2 * a - l) * (d - n) + (2 * b - l) * n) : l ≤ 2 * (a + u * (b - a)) := by
 subst hu;refine Rat.not_lt.1 fun bg => ?_;have k := Rat.mul_pos d0 (show 0 < l - 2 * (a + u * (b - a)) by grind);grind
theorem Yx {a b l n d u : Rat} (d0 : 0 < d) (hu : u * d = n) (h : 0 < (l - 2 * a) * (d - n) + (l - 2 * b) * n) : 2 * (a + u * (b - a)) < l := by
 subst hu;refine Rat.not_le.1 fun bg => ?_;have k := kw (Rat.le_of_lt d0) (show 0 ≤ 2 * (a + u * (b - a)) - l by grind);grind
theorem DR {n d : Int} (hd : 0 < d) : bn n / bn d * bn d = bn n := Rat.div_mul_cancel (by have := p5 hd; grind)
theorem M3 {a b l : Int} {n d : Int} (hd : 0 < d) (h : jF (2 * a - l) (2 * b - l) true n d) : bn l ≤ 2 * (bn a + bn n / bn d * (bn b - bn a)) := by
 have h1 : 0 ≤ (2 * a - l) * (d - n) + (2 * b - l) * n := by rcases h with h | ⟨_, h⟩ <;> omega
 refine Yw (p5 hd) (DR hd) ?_;have := q6.2 h1;simpa [bn, sF, Rat.intCast_mul, Rat.intCast_sub] using this
theorem M4 {a b l : Int} {n d : Int} (hd : 0 < d) (h : jF (l - 2 * a) (l - 2 * b) false n d) : 2 * (bn a + bn n / bn d * (bn b - bn a)) < bn l := by
 have h1 : 0 < (l - 2 * a) * (d - n) + (l - 2 * b) * n := by
  rcases h with h | ⟨h, _⟩
  ·exact h
  ·cases h
 refine Yx (p5 hd) (DR hd) ?_;have := Is.2 h1;simpa [bn, sF, Rat.intCast_mul, Rat.intCast_sub] using this
theorem aa3 {r : Nat} (ap : r ≤ 28) {p q x : ao} (h : qS (2 ^ r * p.1) (2 ^ r * p.2) (2 ^ r * q.1) (2 ^ r * q.2) r x = true) : eM r x.1 x.2 = true ∧ ∃ u, qj (2 ^ r) p q u x := by
 unfold qS at h;rw [Gs ap] at h;refine ⟨h.1, ?_⟩;obtain ⟨_, n, d, hd, ⟨y9, oH⟩, g1, g2, g3, g4⟩ := HA.1 h.2;have d0 := p5 hd;refine ⟨bn n / bn d, ⟨?_, ?_⟩, ⟨?_, ?_⟩, ?_, ?_⟩
 ·refine Rat.not_lt.1 fun bg => ?_;have k := Rat.mul_pos d0 (show 0 < -(bn n / bn d) by grind);have e := DR (n := n) hd;have gb := q6.2 y9;have z : bn 0 = 0 := by simp [bn]
  rw [z] at gb;generalize bn n / bn d = u at *;grind
 ·refine Rat.not_lt.1 fun bg => ?_;have k := Rat.mul_pos d0 (show 0 < bn n / bn d - 1 by grind);have e := DR (n := n) hd;have dp := q6.2 oH;generalize bn n / bn d = u at *;grind
 ·have := M3 hd g1;simpa [bn, sF, Rat.intCast_mul, Rat.intCast_sub] using this
 ·have := M4 hd g3;simpa [bn, sF, Rat.intCast_mul, Rat.intCast_sub] using this
 ·have := M3 hd g2;simpa [bn, sF, Rat.intCast_mul, Rat.intCast_sub] using this
 ·have := M4 hd g4;simpa [bn, sF, Rat.intCast_mul, Rat.intCast_sub] using this
def px (p q : ao) (out : List ao) (x : ao) : List ao := if x ≠ p ∧ x ≠ q ∧ out.getLast? ≠ some x then out ++ [x] else out
def Ln (p q : ao) (l : List ao) : List ao := l.foldl (px p q) []
theorem NI {fx fy : Bool} {q : ao} : ∀ {l : List ao}, l.Pairwise (fun a b => dL fx fy b a = false) → (l3 fx fy q l).Pairwise fun a b => dL fx fy b a = false
 | [], _ => by unfold l3; simp
 | p :: l, h => by
  have aj := je.1 h;unfold l3
  split
  ·rename_i al;refine je.2 ⟨fun r ap => ?_, h⟩;rcases fD.1 ap with rfl | ap
   ·exact JV al
   ·cases aU : dL fx fy r q with
    | false => rfl
    | true => have := aj.1 r ap; rw [yn aU al] at this; cases this
  ·rename_i al;refine je.2 ⟨fun r ap => ?_, NI aj.2⟩;rcases fD.1 ((zB fx fy q l).mem_iff.1 ap) with rfl | ap
   ·simpa using al
   ·exact aj.1 r ap
theorem agm (fx fy : Bool) (f : ao → Bool) (l : List ao) : (rb fx fy f l).Pairwise fun a b => dL fx fy b a = false := by
 have key : ∀ (l out : List ao), out.Pairwise (fun a b => dL fx fy b a = false) → (l.foldl (fun out q => if f q then l3 fx fy q out else out) out).Pairwise fun a b => dL fx fy b a = false := by
  intro l
  induction l with
  | nil => intro out h; exact h
  | cons q l b5 =>
   intro out h;rw [o7];refine b5 _ ?_
   split
   ·exact NI h
   ·exact h
 exact key l [] .nil
theorem Fw {fx fy : Bool} {p q : ao} : ∀ (l out : List ao), j8 fx fy out → (∀ a ∈ out, ∀ b ∈ l, dL fx fy b a = false) → l.Pairwise (fun a b => dL fx fy b a = false) → j8 fx fy (l.foldl (px p q) out) ∧ (∀ x ∈ l.foldl (px p q) out, x ∈ out ∨ (x ∈ l ∧ x ≠ p ∧ x ≠ q)) ∧ (l.foldl (px p q) out).length ≤ out.length + l.length
 | [], out, h, _, _ => ⟨h, fun x aa => .inl aa, dJ _⟩
 | x :: l, out, h, hw, ak => by
  have aj := je.1 ak;rw [o7]
  by_cases aa : x ≠ p ∧ x ≠ q ∧ out.getLast? ≠ some x
  ·have e : px p q out x = out ++ [x] := by unfold px; rw [if_pos aa]
   rw [e]
   have aJ : j8 fx fy (out ++ [x]) := by
    unfold j8;rw [List.pairwise_append];refine ⟨h, List.pairwise_singleton _ _, fun a aJ b ab => ?_⟩;rw [mg] at ab;subst ab;have h1 := hw a aJ b (k6 ..)
    by_cases jm : a = b
    ·subst jm;rcases List.eq_nil_or_concat out with aD | ⟨eV, z, aD⟩
     ·subst aD; cases aJ
     ·rw [List.concat_eq_append] at aD;subst aD;have aP : z ≠ a := fun aU => aa.2.2 (by rw [aU]; simp)
      have pD : a ∈ eV := by
       rcases kr.1 aJ with aO | aO
       ·exact aO
       ·exact absurd (mg.1 aO).symm aP
      have h2 := (List.pairwise_append.1 h).2.2 a pD z (mg.2 rfl);have an := hw z (by simp) a (k6 ..);rw [h2] at an; cases an
    ·exact (E3 jm).resolve_right (by rw [h1]; decide)
   obtain ⟨g1, g2, g3⟩ := Fw l (out ++ [x]) aJ (fun a pD b ab => by
    rcases kr.1 pD with aO | aO
    ·exact hw a aO b (o4 _ ab)
    ·rw [mg.1 aO]; exact aj.1 b ab) aj.2
   refine ⟨g1, fun y ai => ?_, by rw [cJ, List.length_singleton] at g3; simp only [iI]; omega⟩;rcases g2 y ai with aO | aO
   ·rcases kr.1 aO with aO | aO
    ·exact .inl aO
    ·rw [mg.1 aO]; exact .inr ⟨k6 .., aa.1, aa.2.1⟩
   ·exact .inr ⟨o4 _ aO.1, aO.2⟩
  ·have e : px p q out x = out := by unfold px; rw [if_neg aa]
   rw [e];obtain ⟨g1, g2, g3⟩ := Fw l out h (fun a pD b ab => hw a pD b (o4 _ ab)) aj.2;refine ⟨g1, fun y ai => ?_, by simp only [iI]; omega⟩;rcases g2 y ai with aO | aO
   ·exact .inl aO
   ·exact .inr ⟨o4 _ aO.1, aO.2⟩
def rG (r : Nat) (l : List ao) (p q : ao) : List ao := Ln p q (rb (decide ((2 : Int) ^ r * q.1 < 2 ^ r * p.1)) (decide ((2 : Int) ^ r * q.2 < 2 ^ r * p.2)) (qS (2 ^ r * p.1) (2 ^ r * p.2) (2 ^ r * q.1) (2 ^ r * q.2) r) l)
theorem Bs {r : Nat} (ap : r ≤ 28) (l : List ao) (p q : ao) : j8 (decide ((2 : Int) ^ r * q.1 < 2 ^ r * p.1)) (decide ((2 : Int) ^ r * q.2 < 2 ^ r * p.2)) (rG r l p q) ∧ (∀ x ∈ rG r l p q, (x ≠ p ∧ x ≠ q) ∧ eM r x.1 x.2 = true ∧ ∃ u, qj (2 ^ r) p q u x) ∧ (rG r l p q).length ≤ l.length := by
 obtain ⟨g1, g2, g3⟩ := Fw (p := p) (q := q) _ [] (List.Pairwise.nil : j8 (decide ((2 : Int) ^ r * q.1 < 2 ^ r * p.1)) (decide ((2 : Int) ^ r * q.2 < 2 ^ r * p.2)) []) (fun a aJ => by cases aJ) (agm _ _ (qS (2 ^ r * p.1) (2 ^ r * p.2) (2 ^ r * q.1) (2 ^ r * q.2) r) l);refine ⟨g1, fun x aa => ?_, ?_⟩
 ·rcases g2 x aa with h | ⟨h1, h2⟩
  ·cases h
  ·have an := (sB.1 ((Ee _ _ _ l).mem_iff.1 h1)).2;exact ⟨h2, aa3 ap an⟩
 ·refine ha g3 ?_;rw [List.length_nil, jd];exact agl _ _ _ l
def ic (R : ao → ao → Prop) : List ao → Prop
 | p :: q :: W => R p q ∧ ic R (q :: W)
 | _ => True
theorem Fq {R : ao → ao → Prop} : ∀ {l : List ao}, l.Pairwise R → ic R l
 | [], _ => trivial
 | [_], _ => trivial
 | p :: q :: W, h => by
  have aj := je.1 h;exact ⟨aj.1 q (k6 ..), Fq aj.2⟩
theorem Fp {R : ao → ao → Prop} {q : ao} {W : List ao} : ∀ {A : List ao}, ic R (A ++ [q]) → ic R (q :: W) → ic R (A ++ q :: W)
 | [], _, h => h
 | [a], h, aO => ⟨h.1, aO⟩
 | a :: b :: A, h, aO => ⟨h.1, Fp (A := b :: A) h.2 aO⟩
theorem Bt {r : Nat} (ap : r ≤ 28) (l : List ao) (p q : ao) {R : ao → ao → Prop} (aD : R p q) (h1 : ∀ x, (∃ u, qj (2 ^ r) p q u x) → R p x ∧ R x q) (h2 : ∀ x y u w, qj (2 ^ r) p q u x → qj (2 ^ r) p q w y → u ≤ w → R x y) : ic R (p :: (rG r l p q ++ [q])) := by
 obtain ⟨s1, s2, _⟩ := Bs ap l p q;have hS : (0 : Int) < 2 ^ r := hO (by decide);refine Fq (je.2 ⟨fun x aa => ?_, List.pairwise_append.2 ⟨s1.imp_of_mem fun {x y} aa ai im => ?_, List.pairwise_singleton _ _, fun x aa y ai => ?_⟩⟩)
 ·rcases kr.1 aa with aa | aa
  ·exact (h1 x (s2 x aa).2.2).1
  ·rw [mg.1 aa]; exact aD
 ·obtain ⟨u, hu⟩ := (s2 x aa).2.2;obtain ⟨w, hw⟩ := (s2 y ai).2.2;exact h2 x y u w hu hw (Ox hS hu hw im)
 ·rw [mg.1 ai]; exact (h1 x (s2 x aa).2.2).2
theorem UP {r : Nat} (ap : r ≤ 28) (l : List ao) (p q : ao) (h : p ≠ q) : ic (· ≠ ·) (p :: (rG r l p q ++ [q])) := by
 obtain ⟨s1, s2, _⟩ := Bs ap l p q;refine Fq (je.2 ⟨fun x aa => ?_, List.pairwise_append.2 ⟨s1.imp fun {x y} im e => ?_, List.pairwise_singleton _ _, fun x aa y ai => ?_⟩⟩)
 ·rcases kr.1 aa with aa | aa
  ·exact fun e => (s2 x aa).1.1 e.symm
  ·rw [mg.1 aa]; exact h
 ·subst e; rw [JW] at im; cases im
 ·rw [mg.1 ai]; exact (s2 x aa).1.2
def Ef (V : List ao) (j : Nat) (l : List ao) : List ao := V.take (j + 1) ++ l ++ V.drop (j + 1)
def Av (D : List Int) (j : Nat) (n : Nat) : List Int := D.take j ++ List.replicate (n + 1) (D.getD j 0 + 1) ++ D.drop (j + 1)
theorem VW {V : List ao} {j : Nat} {p q : ao} (hp : V[j]? = some p) (al : V[j + 1]? = some q) : V.drop j = p :: q :: V.drop (j + 2) := by
 obtain ⟨h1, aF⟩ := bM.1 hp;obtain ⟨h2, aM⟩ := bM.1 al;rw [mN h1, aF, mN h2, aM]
end Go.Proofs.YtbcecodakfejaaaGreat
namespace Go.Proofs.YtbcecodakfejaaaGreat
open Go.RowKit
def oZ (a b c d : Int) : Int := if b8 a b c d = true then 0 else if a < c ∨ (a = c ∧ b < d) then -1 else 1
theorem adH {a b c d : Int} : aC ag 163 [aK a b, aK c d] (aH (oZ a b c d)) := by
 have cs : (b8 a b c d = true ∧ oZ a b c d = 0) ∨ (b8 a b c d = false ∧ a < c ∧ oZ a b c d = -1) ∨ (b8 a b c d = false ∧ ¬ a < c ∧ a = c ∧ b < d ∧ oZ a b c d = -1) ∨ (b8 a b c d = false ∧ ¬ a < c ∧ a = c ∧ ¬ b < d ∧ oZ a b c d = 1) ∨ (b8 a b c d = false ∧ ¬ a < c ∧ ¬ a = c ∧ oZ a b c d = 1) := by
  unfold oZ;cases h : b8 a b c d with
  | true => simp
  | false =>
   by_cases h1 : a < c <;> by_cases h2 : a = c <;> by_cases an : b < d <;> simp [h1, h2, an] <;> omega
 rcases cs with ⟨h1, h⟩ | ⟨h1, h2, h⟩ | ⟨h1, h2, an, aE, h⟩ | ⟨h1, h2, an, aE, h⟩ | ⟨h1, h2, an, h⟩ <;> rw [h] <;> clear h
 all_goals
  refine bm (f := 163) Tryz.func163 rfl rfl rfl rfl ?_;(repeat first | refine ez ?_ | (with_reducible apply cW (c := true)); rfl; rfl; (exact cw (by omega)) | (with_reducible apply cW (c := false)); rfl; rfl; (exact c3 (by omega)))
  ((refine bc rfl (bf rfl aN) ?_))
  exact ah.aQ.refl _
theorem xz {x y : Int} {b : Bool} (ab : cf x y = b) : aC ag 117 [aK x y] (bk b) := by
 have cs : (x ≤ 536870912 ∧ y ≤ 536870912 ∧ -536870912 ≤ x ∧ -536870912 ≤ y ∧ b = true) ∨ (x ≤ 536870912 ∧ y ≤ 536870912 ∧ -536870912 ≤ x ∧ ¬ -536870912 ≤ y ∧ b = false) ∨ (x ≤ 536870912 ∧ y ≤ 536870912 ∧ ¬ -536870912 ≤ x ∧ b = false) ∨ (x ≤ 536870912 ∧ ¬ y ≤ 536870912 ∧ b = false) ∨ (¬ x ≤ 536870912 ∧ b = false) := by
  rw [← ab]; unfold cf rR
  by_cases q1 : x ≤ 536870912 <;> by_cases q2 : y ≤ 536870912 <;> by_cases bO : -536870912 ≤ x <;> by_cases dj : -536870912 ≤ y <;> simp [q1, q2, bO, dj]
 clear ab;rcases cs with ⟨q1, q2, bO, dj, rfl⟩ | ⟨q1, q2, bO, dj, rfl⟩ | ⟨q1, q2, bO, rfl⟩ | ⟨q1, q2, rfl⟩ | ⟨q1, rfl⟩
 all_goals
  refine bm (f := 117) Tryz.func117 rfl rfl rfl rfl ?_;(repeat first | refine ez ?_ | (with_reducible apply cW (c := true)); rfl; rfl; (exact cw (by omega)) | (with_reducible apply cW (c := false)); rfl; rfl; (exact c3 (by omega)))
  ((refine bc rfl (bf rfl aN) ?_))
  first | exact ah.aQ.refl _ | exact ah.aQ.of_eq (by rw [cw dj]; rfl) | exact ah.aQ.of_eq (by rw [c3 dj]; rfl)
theorem tK {x y : Int} (h1 : -536870912 ≤ x) (h2 : x ≤ 536870912) (an : -536870912 ≤ y) (aE : y ≤ 536870912) : -288230376151711744 ≤ x * y ∧ x * y ≤ 288230376151711744 := by
 have := Db h1 h2 an aE;omega
theorem H6 {a1 a2 b1 b2 : Int} (aJ : cf a1 a2 = true) (ab : cf b1 b2 = true) : aC ag 139 [aK a1 a2, aK b1 b2] (aH (a1 * b2 - a2 * b1)) := by
 rw [DQ] at aJ ab;have m1 := tK (x := a1) (y := b2) (by omega) (by omega) (by omega) (by omega);have m2 := tK (x := a2) (y := b1) (by omega) (by omega) (by omega) (by omega);refine bm (f := 139) Tryz.func139 rfl rfl rfl rfl ?_;(refine eF ?_)
 ((refine bc rfl (bf rfl aN) ?_))
 exact ah.aQ.refl _
theorem Vz (o1 o2 a1 a2 b1 b2 : Int) : o1 * a2 - o2 * a1 + (a1 * b2 - a2 * b1) + (b1 * o2 - b2 * o1) = bW o1 o2 a1 a2 b1 b2 := by
 unfold bW;simp only [Int.sub_mul, Int.mul_sub];rw [hA o1 a2, hA o2 a1, hA b1 o2, hA b2 o1, hA o1 o2];omega
theorem adJ {o1 o2 a1 a2 b1 b2 : Int} : aC ag 118 [aK o1 o2, aK a1 a2, aK b1 b2] (aH (hU o1 o2 a1 a2 b1 b2)) := by
 have ba := xz (x := o1) (y := o2) rfl;have ec := xz (x := a1) (y := a2) rfl;have gr := xz (x := b1) (y := b2) rfl
 have cs : (cf o1 o2 = false ∧ hU o1 o2 a1 a2 b1 b2 = 0) ∨ (cf o1 o2 = true ∧ cf a1 a2 = false ∧ hU o1 o2 a1 a2 b1 b2 = 0) ∨ (cf o1 o2 = true ∧ cf a1 a2 = true ∧ cf b1 b2 = false ∧ hU o1 o2 a1 a2 b1 b2 = 0) ∨ (cf o1 o2 = true ∧ cf a1 a2 = true ∧ cf b1 b2 = true) := by
  unfold hU;generalize cf o1 o2 = p at *;generalize cf a1 a2 = q at *;generalize cf b1 b2 = r at *;cases p <;> cases q <;> cases r <;> simp_all
 rcases cs with ⟨h1, h⟩ | ⟨h1, h2, h⟩ | ⟨h1, h2, an, h⟩ | ⟨h1, h2, an⟩
 ·rw [h]; clear h; simp only [*] at ba ec gr;refine bm (f := 118) Tryz.func118 rfl rfl rfl rfl ?_;(refine bY ?_)
  ((refine bc rfl (bf rfl aN) ?_))
  exact ah.aQ.refl _
 ·rw [h]; clear h; simp only [*] at ba ec gr;refine bm (f := 118) Tryz.func118 rfl rfl rfl rfl ?_;(refine bY ?_)
  ((refine bc rfl (bf rfl aN) ?_))
  exact ah.aQ.refl _
 ·rw [h]; clear h; simp only [*] at ba ec gr;refine bm (f := 118) Tryz.func118 rfl rfl rfl rfl ?_;(refine bY ?_)
  ((refine bc rfl (bf rfl aN) ?_))
  exact ah.aQ.refl _
 ·have e : hU o1 o2 a1 a2 b1 b2 = bW o1 o2 a1 a2 b1 b2 := by unfold hU; simp [h1, h2, an]
  rw [e];have lM := H6 h1 h2;have kN := H6 h2 an;have ahk := H6 an h1;have E := Vz o1 o2 a1 a2 b1 b2;simp only [*] at ba ec gr;rw [DQ] at h1 h2 an;have m1 := tK (x := o1) (y := a2) (by omega) (by omega) (by omega) (by omega);have m2 := tK (x := o2) (y := a1) (by omega) (by omega) (by omega) (by omega);have m3 := tK (x := a1) (y := b2) (by omega) (by omega) (by omega) (by omega);have m4 := tK (x := a2) (y := b1) (by omega) (by omega) (by omega) (by omega);have m5 := tK (x := b1) (y := o2) (by omega) (by omega) (by omega) (by omega);have m6 := tK (x := b2) (y := o1) (by omega) (by omega) (by omega) (by omega);clear e h1 h2 an;rw [← E];have dp : -576460752303423488 ≤ o1 * a2 - o2 * a1 ∧ o1 * a2 - o2 * a1 ≤ 576460752303423488 := by omega
  have dX : -576460752303423488 ≤ a1 * b2 - a2 * b1 ∧ a1 * b2 - a2 * b1 ≤ 576460752303423488 := by omega
  have ja : -576460752303423488 ≤ b1 * o2 - b2 * o1 ∧ b1 * o2 - b2 * o1 ≤ 576460752303423488 := by omega
  clear m1 m2 m3 m4 m5 m6 E;generalize o1 * a2 - o2 * a1 = ct at *;generalize a1 * b2 - a2 * b1 = cz at *;generalize b1 * o2 - b2 * o1 = h4 at *;refine bm (f := 118) Tryz.func118 rfl rfl rfl rfl ?_;(refine bY ?_)
  ((refine bc rfl (bf rfl aN) ?_))
  exact ah.aQ.refl _
theorem Qc {n m : Int} (aD : -9223372036854775808 ≤ n) (h1 : n < 9223372036854775808) (e5 : -9223372036854775808 ≤ m) (bl : m < 9223372036854775808) : aC ag 150 [aH n, aH m] (gf (n * m)) := by
 have aT := tX aD h1;have bH := tX e5 bl;have et := acL (L7 aD h1) (L7 e5 bl);rw [vX (agI aD h1 e5 bl)] at et;clear aD h1 e5 bl;refine bm (f := 150) Tryz.func150 rfl rfl rfl rfl ?_;(refine bY ?_)
 ((refine bc rfl (cu rfl rfl rfl aN) ?_))
 exact ah.aQ.refl _
theorem Ws (a b c d a' bT c' d' : Int) (W : World) : (Op.equalIn 10000 181 (.agg #[.int .i64 a, .int .i64 b, .int .i64 c, .int .i64 d]) (.agg #[.int .i64 a', .int .i64 bT, .int .i64 c', .int .i64 d'])).run ag W = .ok (pz a b c d a' bT c' d') W := by
 unfold pz b8
 go_simp
 by_cases h1 : a = a' <;> by_cases h2 : b = bT <;> by_cases an : c = c' <;> by_cases aE : d = d' <;> simp [h1, h2, an, aE]
instance aiF : Jn ag 181 := ⟨by kernel_rfl, Ws⟩
theorem ad1 {a b c d : Int} : (oZ a b c d > 0 ↔ ¬ cM a b c d) := by
 unfold oZ cM;cases h : b8 a b c d with
 | true => rw [mz] at h; rw [if_pos rfl]; omega
 | false =>
  have : ¬ (a = c ∧ b = d) := fun k => by rw [mz.2 k] at h; cases h
  rw [if_neg (by simp)]
  split <;> omega
theorem H8 {a1 a2 b1 b2 : Int} : aC ag 145 [aK a1 a2, aK b1 b2] (.cr [.agg [.c (.int .i64 (cV a1 a2 b1 b2)), .c (.int .i64 (cI a1 a2 b1 b2))], .agg [.c (.int .i64 (cR a1 a2 b1 b2)), .c (.int .i64 (cH a1 a2 b1 b2))]]) := by
 have aT := adH (a := a1) (b := a2) (c := b1) (d := b2);have h := ad1 (a := a1) (b := a2) (c := b1) (d := b2)
 have cs : (oZ a1 a2 b1 b2 > 0 ∧ cV a1 a2 b1 b2 = b1 ∧ cI a1 a2 b1 b2 = b2 ∧ cR a1 a2 b1 b2 = a1 ∧ cH a1 a2 b1 b2 = a2) ∨ (¬ oZ a1 a2 b1 b2 > 0 ∧ cV a1 a2 b1 b2 = a1 ∧ cI a1 a2 b1 b2 = a2 ∧ cR a1 a2 b1 b2 = b1 ∧ cH a1 a2 b1 b2 = b2) := by
  rw [h];unfold cV cI cR cH
  by_cases k : cM a1 a2 b1 b2 <;> simp [k]
 clear h;generalize cV a1 a2 b1 b2 = l1 at *;generalize cI a1 a2 b1 b2 = l2 at *;generalize cR a1 a2 b1 b2 = h1 at *;generalize cH a1 a2 b1 b2 = h2 at *;generalize oZ a1 a2 b1 b2 = c at *;rcases cs with ⟨q, rfl, rfl, rfl, rfl⟩ | ⟨q, rfl, rfl, rfl, rfl⟩
 all_goals
  refine bm (f := 145) Tryz.func145 rfl rfl rfl rfl ?_;(refine bY ?_)
  ((refine bc rfl (cu rfl rfl rfl (cu rfl rfl rfl aN)) ?_))
  exact ah.aQ.refl _
theorem Dx {a1 a2 b1 b2 : Int} : aC ag 124 [aK a1 a2, aK b1 b2] (jf (cV a1 a2 b1 b2) (cI a1 a2 b1 b2) (cR a1 a2 b1 b2) (cH a1 a2 b1 b2)) := by
 have aT := H8 (a1 := a1) (a2 := a2) (b1 := b1) (b2 := b2);generalize cV a1 a2 b1 b2 = l1 at *;generalize cI a1 a2 b1 b2 = l2 at *;generalize cR a1 a2 b1 b2 = h1 at *;generalize cH a1 a2 b1 b2 = h2 at *;refine bm (f := 124) Tryz.func124 rfl rfl rfl rfl ?_;(refine bY ?_)
 ((refine bc rfl (cu rfl rfl rfl aN) ?_))
 exact ah.aQ.refl _
theorem Dw {s1 s2 bC bE p1 p2 : Int} (h1 : cf s1 s2 = true) (h2 : cf bC bE = true) (an : cf p1 p2 = true) : aC ag 125 [jf s1 s2 bC bE, aK p1 p2] (aH (bW s1 s2 bC bE p1 p2)) := by
 have aT := PF h1 h2 an;clear h1 h2 an;generalize bW s1 s2 bC bE p1 p2 = c at *;refine bm (f := 125) Tryz.func125 rfl rfl rfl rfl ?_;(refine bY ?_)
 ((refine bc rfl (bf rfl aN) ?_))
 exact ah.aQ.refl _
theorem HY {s1 s2 bC bE p1 p2 : Int} (h1 : cf s1 s2 = true) (h2 : cf bC bE = true) (an : cf p1 p2 = true) : l6 p1 p2 s1 s2 bC bE = decide (cG p1 p2 s1 s2 bC bE) := by
 rw [lD, cq];unfold l6 cG qL;rw [h1, h2, an];simp only [p0, dc, cq, Xa]
 constructor
 ·rintro ⟨⟨a, b, c, d⟩, e⟩; exact ⟨e, a, b, c, d⟩
 ·rintro ⟨e, a, b, c, d⟩; exact ⟨⟨a, b, c, d⟩, e⟩
theorem PS {s1 s2 bC bE p1 p2 : Int} (h1 : cf s1 s2 = true) (h2 : cf bC bE = true) (an : cf p1 p2 = true) : aC ag 147 [jf s1 s2 bC bE, aK p1 p2] (bk (decide (cG p1 p2 s1 s2 bC bE))) := by
 have aT := acQ (HY h1 h2 an);clear h1 h2 an;generalize decide (cG p1 p2 s1 s2 bC bE) = c at *;refine bm (f := 147) Tryz.func147 rfl rfl rfl rfl ?_;(refine bY ?_)
 ((refine bc rfl (bf rfl aN) ?_))
 exact ah.aQ.refl _
theorem P5 {m n : Int} {r : Bool} (ap : decide (same m n) = r) : aC ag 127 [aH m, aH n] (bk r) := by
 have cs : (m > 0 ∧ n > 0 ∧ r = true) ∨ (m > 0 ∧ ¬ n > 0 ∧ ¬ m < 0 ∧ r = false) ∨ (¬ m > 0 ∧ m < 0 ∧ n < 0 ∧ r = true) ∨ (¬ m > 0 ∧ m < 0 ∧ ¬ n < 0 ∧ r = false) ∨ (¬ m > 0 ∧ ¬ m < 0 ∧ r = false) := by
  rw [← ap];unfold same
  by_cases h1 : m > 0 <;> by_cases h2 : n > 0 <;> by_cases an : m < 0 <;> by_cases aE : n < 0 <;> simp [h1, h2, an, aE] <;> omega
 clear ap;rcases cs with ⟨q1, q2, rfl⟩ | ⟨q1, q2, bO, rfl⟩ | ⟨q1, q2, bO, rfl⟩ | ⟨q1, q2, bO, rfl⟩ | ⟨q1, q2, rfl⟩
 all_goals
  refine bm (f := 127) Tryz.func127 rfl rfl rfl rfl ?_;(repeat first | refine ez ?_ | (with_reducible apply cW (c := true)); rfl; rfl; (exact cw (by omega)) | (with_reducible apply cW (c := false)); rfl; rfl; (exact c3 (by omega)))
  ((refine bc rfl (bf rfl aN) ?_))
  first | exact ah.aQ.refl _ | exact ah.aQ.of_eq (by rw [cw q2]; rfl) | exact ah.aQ.of_eq (by rw [cw bO]; rfl) | exact ah.aQ.of_eq (by rw [c3 bO]; rfl)
theorem Bw {x A : Int} (h1 : -134217728 ≤ x) (h2 : x ≤ 134217728) (an : -144115188075855872 ≤ A) (aE : A ≤ 144115188075855872) : -19342813113834066795298816 ≤ x * A ∧ x * A ≤ 19342813113834066795298816 := by
 have := Db h1 h2 an aE;omega
theorem Qd {l h A B n d : Int} (bU : A ≠ B) (oQ : -134217728 ≤ l) (l1 : l ≤ 134217728) (aD : -134217728 ≤ h) (h1 : h ≤ 134217728) (bp : -144115188075855872 ≤ A) (hQ : A ≤ 144115188075855872) (a8 : -144115188075855872 ≤ B) (mm : B ≤ 144115188075855872) (ax : hW (h * A - l * B) (A - B) = n) (hd : hy (A - B) = d) : aC ag 128 [aH l, aH h, aH A, aH B] (fv n d) := by
 have b1 := Bw aD h1 bp hQ;have b2 := Bw oQ l1 a8 mm;have s0 := Qc (n := h) (m := A) (by omega) (by omega) (by omega) (by omega);have yh := Qc (n := l) (m := B) (by omega) (by omega) (by omega) (by omega);have f1 : fits (h * A) = true := by unfold fits; rw [cq]; omega
 have f2 : fits (l * B) = true := by unfold fits; rw [cq]; omega
 have f3 : fits (h * A - l * B) = true := by unfold fits; rw [cq]; omega
 have f4 : fits (A - B) = true := by unfold fits; rw [cq]; omega
 have Tn := Qb f1 f2;have To := tX (n := A - B) (by omega) (by omega);simp only [wf, f3, if_true] at Tn
 have Tp : aC ag 151 [gf (h * A - l * B), gf (A - B)] (.cr [BX n d, .one (.c (.bool true))]) := by
  by_cases q : A - B < 0
  ·unfold hW at ax;unfold hy at hd;rw [if_pos q] at ax hd;have g1 : fits (-(h * A - l * B)) = true := by unfold fits; rw [cq]; omega
   have g2 : fits (-(A - B)) = true := by unfold fits; rw [cq]; omega
   exact acF f3 f4 q (s := true) (by rw [g1, g2]; rfl) (by rw [if_pos rfl, ax]) (by rw [if_pos rfl, hd])
  ·unfold hW at ax;unfold hy at hd;rw [if_neg q] at ax hd;have := acG f3 f4 (by omega);rw [ax, hd] at this;rw [ax, hd];exact this
 obtain ⟨D, eK⟩ : ∃ D, A - B = D := ⟨_, rfl⟩;have w1 : IntKind.i64.wrap (A - B) = D := by rw [← eK]; exact n2 (by omega)
 rw [eK] at To Tp;clear f1 f2 f3 f4 b1 b2 ax hd eK bp hQ a8 mm bU;generalize h * A - l * B = X at *;generalize h * A = Y at *;generalize l * B = Z at *;refine bm (f := 128) Tryz.func128 rfl rfl rfl rfl ?_;(refine bY ?_)
 ((refine bc rfl (cu rfl rfl rfl aN) ?_))
 exact ah.aQ.refl _
instance aiG : Ez ag 150 0 0 false 1 := ⟨by kernel_rfl⟩
abbrev ag0 (k n d m e p1 p2 q1 q2 : Int) : ah := .w (.agg [.c (.int .i64 k), .c (.int .i64 (cd n)), .c (.int .u64 (dH n)), .c (.int .i64 (cd d)), .c (.int .u64 (dH d)), .c (.int .i64 (cd m)), .c (.int .u64 (dH m)), .c (.int .i64 (cd e)), .c (.int .u64 (dH e)), .c (.int .i64 p1), .c (.int .i64 p2), .c (.int .i64 q1), .c (.int .i64 q2)])
abbrev oh (M : eI) : ah := ag0 M.k M.n M.d M.m M.e M.p1 M.p2 M.q1 M.q2
theorem Zs {s1 s2 bC bE t1 t2 t3 t4 f1 f2 g1 g2 ct cz kL qd : Int} {p q : Bool} {M : eI}
  (rv : aC ag 145 [aK s1 s2, aK t1 t2] (.cr [.agg [.c (.int .i64 ct), .c (.int .i64 cz)], .agg [.c (.int .i64 f1), .c (.int .i64 f2)]]))
  (uD : aC ag 145 [aK bC bE, aK t3 t4] (.cr [.agg [.c (.int .i64 g1), .c (.int .i64 g2)], .agg [.c (.int .i64 kL), .c (.int .i64 qd)]]))
  (H1 : aC ag 147 [jf s1 s2 bC bE, aK f1 f2] (bk p)) (c9 : aC ag 147 [jf t1 t2 t3 t4, aK f1 f2] (bk q))
  (lN : aC ag 148 [aH f1] (fv f1 1)) (rq : aC ag 148 [aH f2] (fv f2 1))
  (fP : (if (p && q) = true then pP f1 f2 g1 g2 else e7) = M) : aC ag 126 [jf s1 s2 bC bE, jf t1 t2 t3 t4] (oh M) := by
 unfold pP at fP;have hp : (f1 = g1 ∧ f2 = g2) ↔ b8 f1 f2 g1 g2 = true := mz.symm
 have cs : (p = false ∧ M = e7) ∨ (p = true ∧ q = false ∧ M = e7) ∨ (p = true ∧ q = true ∧ b8 f1 f2 g1 g2 = true ∧ M = gl f1 1 f2 1) ∨ (p = true ∧ q = true ∧ b8 f1 f2 g1 g2 = false ∧ M = kc f1 f2 g1 g2) := by
  rw [← fP];cases al : b8 f1 f2 g1 g2 <;> rw [al] at hp <;> cases p <;> cases q <;> simp [hp]
 clear fP hp;refine bm (f := 126) Tryz.func126 rfl rfl rfl rfl ?_;(refine bY ?_);clear rv uD;rcases cs with ⟨rfl, rfl⟩ | ⟨rfl, rfl, rfl⟩ | ⟨rfl, rfl, h, rfl⟩ | ⟨rfl, rfl, h, rfl⟩
 all_goals
  (refine bY ?_)
  ((refine bc rfl (cu rfl rfl rfl aN) ?_))
  first | exact ah.aQ.refl _ | exact ah.aQ.of_eq (by simp only [e7, w7, xl]; rfl) | exact ah.aQ.of_eq (by simp only [kc, w7, xl]; rfl)
theorem Ir {a1 a2 b1 b2 : Int} (h : bA a1 a2 = true) (k : bA b1 b2 = true) : bA (cR a1 a2 b1 b2) (cH a1 a2 b1 b2) = true := by
 rcases hr a1 a2 b1 b2 with ⟨_, _, an, aE, _⟩ | ⟨_, _, an, aE, _⟩ <;> rw [an, aE] <;> assumption
theorem QQ {a1 a2 b1 b2 : Int} (h : bA a1 a2 = true) (k : bA b1 b2 = true) : bA (cV a1 a2 b1 b2) (cI a1 a2 b1 b2) = true := by
 rcases hr a1 a2 b1 b2 with ⟨an, aE, _⟩ | ⟨an, aE, _⟩ <;> rw [an, aE] <;> assumption
theorem adu {s1 s2 bC bE t1 t2 t3 t4 : Int} (h1 : bA s1 s2 = true) (h2 : bA bC bE = true) (an : bA t1 t2 = true) (aE : bA t3 t4 = true) : aC ag 126 [jf s1 s2 bC bE, jf t1 t2 t3 t4] (oh (inl s1 s2 bC bE t1 t2 t3 t4)) := by
 have ar := Ir h1 an;have ab := k8.1 ar;refine Zs H8 H8 (PS (iJ h1) (iJ h2) (iJ ar)) (PS (iJ an) (iJ aE) (iJ ar)) (PM (by omega) (by omega)) (PM (by omega) (by omega)) ?_;unfold inl;exact tH (by rw [dc, cq, cq])
theorem ac7 {a1 a2 b1 b2 c1 c2 d1 d2 : Int} (h : (bA a1 a2 && bA b1 b2 && bA c1 c2 && bA d1 d2) = false) : aC ag 93 [aK a1 a2, aK b1 b2, aK c1 c2, aK d1 d2] (oh e7) := by
 have ba := oY (x := a1) (y := a2) rfl;have ec := oY (x := b1) (y := b2) rfl;have gr := oY (x := c1) (y := c2) rfl;have mZ := oY (x := d1) (y := d2) rfl
 have cs : bA a1 a2 = false ∨ (bA a1 a2 = true ∧ bA b1 b2 = false) ∨ (bA a1 a2 = true ∧ bA b1 b2 = true ∧ bA c1 c2 = false) ∨ (bA a1 a2 = true ∧ bA b1 b2 = true ∧ bA c1 c2 = true ∧ bA d1 d2 = false) := by
  generalize bA a1 a2 = b6 at *;generalize bA b1 b2 = cD at *;generalize bA c1 c2 = fp at *;generalize bA d1 d2 = kx at *;cases b6 <;> cases cD <;> cases fp <;> cases kx <;> simp_all
 clear h;rcases cs with h1 | ⟨h1, h2⟩ | ⟨h1, h2, an⟩ | ⟨h1, h2, an, aE⟩ <;> simp only [*] at ba ec gr mZ
 all_goals
  refine bm (f := 93) Tryz.func93 rfl rfl rfl rfl ?_;(refine bY ?_)
  ((refine bc rfl (cu rfl rfl rfl aN) ?_))
  exact ah.aQ.of_eq (by simp only [e7, w7, xl]; rfl)
theorem Vt {a1 a2 b1 b2 c1 c2 d1 d2 s1 s2 bC bE t1 t2 t3 t4 A B C D n d m e : Int} {x y : Bool} {I M : eI}
  (ba : aC ag 123 [aK a1 a2] (bk true)) (ec : aC ag 123 [aK b1 b2] (bk true)) (gr : aC ag 123 [aK c1 c2] (bk true)) (mZ : aC ag 123 [aK d1 d2] (bk true))
  (mm : aC ag 124 [aK a1 a2, aK b1 b2] (jf s1 s2 bC bE)) (rl : aC ag 124 [aK c1 c2, aK d1 d2] (jf t1 t2 t3 t4))
  (ew : aC ag 125 [jf s1 s2 bC bE, aK t1 t2] (aH A)) (fM : aC ag 125 [jf s1 s2 bC bE, aK t3 t4] (aH B))
  (rA : aC ag 125 [jf t1 t2 t3 t4, aK s1 s2] (aH C)) (yg : aC ag 125 [jf t1 t2 t3 t4, aK bC bE] (aH D))
  (EJ : aC ag 127 [aH A, aH B] (bk x)) (EK : aC ag 127 [aH C, aH D] (bk y))
  (L : aC ag 126 [jf s1 s2 bC bE, jf t1 t2 t3 t4] (oh I))
  (s3 : A ≠ B → aC ag 128 [aH t1, aH t3, aH A, aH B] (fv n d)) (s4 : A ≠ B → aC ag 128 [aH t2, aH t4, aH A, aH B] (fv m e))
  (fP : (if A = B then I else if (x || y) = true then e7 else gl n d m e) = M) : aC ag 93 [aK a1 a2, aK b1 b2, aK c1 c2, aK d1 d2] (oh M) := by
 have cs : (A = B ∧ M = I) ∨ (¬ A = B ∧ x = true ∧ M = e7) ∨ (¬ A = B ∧ x = false ∧ y = true ∧ M = e7) ∨ (¬ A = B ∧ x = false ∧ y = false ∧ M = gl n d m e) := by
  rw [← fP]
  by_cases h : A = B
  ·simp [h]
  ·cases x <;> cases y <;> simp [h]
 clear fP;refine bm (f := 93) Tryz.func93 rfl rfl rfl rfl ?_;(refine bY ?_);clear ba ec gr mZ mm rl ew fM;rcases cs with ⟨h, rfl⟩ | ⟨h, rfl, rfl⟩ | ⟨h, rfl, rfl, rfl⟩ | ⟨h, rfl, rfl, rfl⟩
 ·clear s3 s4;(refine bY ?_)
  ((refine bc rfl (cu rfl rfl rfl aN) ?_))
  exact ah.aQ.refl _
 ·clear s3 s4;(refine bY ?_)
  ((refine bc rfl (cu rfl rfl rfl aN) ?_))
  exact ah.aQ.of_eq (by simp only [e7, w7, xl]; rfl)
 ·clear s3 s4;(refine bY ?_)
  ((refine bc rfl (cu rfl rfl rfl aN) ?_))
  exact ah.aQ.of_eq (by simp only [e7, w7, xl]; rfl)
 ·have Tt := s3 h;have Tu := s4 h;clear s3 s4;(refine bY ?_)
  ((refine bc rfl (cu rfl rfl rfl aN) ?_))
  exact ah.aQ.refl _
theorem Da {x y : Int} (h1 : -268435456 ≤ x) (h2 : x ≤ 268435456) (an : -268435456 ≤ y) (aE : y ≤ 268435456) : -72057594037927936 ≤ x * y ∧ x * y ≤ 72057594037927936 := by
 have := Db h1 h2 an aE;omega
theorem Lb {o1 o2 a1 a2 b1 b2 : Int} (h1 : bA o1 o2 = true) (h2 : bA a1 a2 = true) (an : bA b1 b2 = true) : -144115188075855872 ≤ bW o1 o2 a1 a2 b1 b2 ∧ bW o1 o2 a1 a2 b1 b2 ≤ 144115188075855872 := by
 rw [k8] at h1 h2 an;have m1 := Da (x := a1 - o1) (y := b2 - o2) (by omega) (by omega) (by omega) (by omega);have m2 := Da (x := a2 - o2) (y := b1 - o1) (by omega) (by omega) (by omega) (by omega);unfold bW;omega
def kp (a1 a2 b1 b2 c1 c2 d1 d2 : Int) : eI := if (bA a1 a2 && bA b1 b2 && bA c1 c2 && bA d1 d2) = true then fm a1 a2 b1 b2 c1 c2 d1 d2 else e7
theorem ac8 {a1 a2 b1 b2 c1 c2 d1 d2 : Int} (aJ : bA a1 a2 = true) (ab : bA b1 b2 = true) (aj : bA c1 c2 = true) (hd : bA d1 d2 = true) : aC ag 93 [aK a1 a2, aK b1 b2, aK c1 c2, aK d1 d2] (oh (fm a1 a2 b1 b2 c1 c2 d1 d2)) := by
 have ba := oY aJ;have ec := oY ab;have gr := oY aj;have mZ := oY hd;have mm := Dx (a1 := a1) (a2 := a2) (b1 := b1) (b2 := b2);have rl := Dx (a1 := c1) (a2 := c2) (b1 := d1) (b2 := d2);have q1 := QQ aJ ab;have q2 := Ir aJ ab;have bO := QQ aj hd;have dj := Ir aj hd;have l1 := qR a1 a2 b1 b2;have l2 := qR c1 c2 d1 d2;rw [← Oq];generalize cV a1 a2 b1 b2 = s1 at *;generalize cI a1 a2 b1 b2 = s2 at *;generalize cR a1 a2 b1 b2 = bC at *;generalize cH a1 a2 b1 b2 = bE at *;generalize cV c1 c2 d1 d2 = t1 at *;generalize cI c1 c2 d1 d2 = t2 at *;generalize cR c1 c2 d1 d2 = t3 at *;generalize cH c1 c2 d1 d2 = t4 at *;have bl := Lb q1 q2 bO;have bJ := Lb q1 q2 dj;have i3 := k8.1 bO;have i4 := k8.1 dj
 refine Vt ba ec gr mZ mm rl (Dw (iJ q1) (iJ q2) (iJ bO)) (Dw (iJ q1) (iJ q2) (iJ dj)) (Dw (iJ bO) (iJ dj) (iJ q1)) (Dw (iJ bO) (iJ dj) (iJ q2)) (P5 rfl) (P5 rfl) (adu q1 q2 bO dj)
  (fun bU => Qd bU i3.1.1 i3.1.2 i4.1.1 i4.1.2 bl.1 bl.2 bJ.1 bJ.2 rfl rfl) (fun bU => Qd bU i3.2.1 i3.2.2 i4.2.1 i4.2.2 bl.1 bl.2 bJ.1 bJ.2 rfl rfl) ?_
 rw [← aaX l1 l2];unfold HB
 by_cases h : bW s1 s2 bC bE t1 t2 = bW s1 s2 bC bE t3 t4
 ·rw [if_pos h, if_pos h]
 ·rw [if_neg h, if_neg h];exact tH (by rw [pX, cq, cq])
theorem H5 {a1 a2 b1 b2 c1 c2 d1 d2 : Int} : aC ag 93 [aK a1 a2, aK b1 b2, aK c1 c2, aK d1 d2] (oh (kp a1 a2 b1 b2 c1 c2 d1 d2)) := by
 unfold kp
 by_cases h : (bA a1 a2 && bA b1 b2 && bA c1 c2 && bA d1 d2) = true
 ·rw [if_pos h];simp only [dc] at h;exact ac8 h.1.1.1 h.1.1.2 h.1.2 h.2
 ·rw [if_neg h];exact ac7 (by simpa using h)
def rO (M : eI) (a1 a2 b1 b2 c1 c2 d1 d2 : Int) : Bool :=
 if M.k = 1 then b8 a1 a2 c1 c2 || b8 a1 a2 d1 d2 || b8 b1 b2 c1 c2 || b8 b1 b2 d1 d2
 else if M.k = 2 then pz (cV a1 a2 b1 b2) (cI a1 a2 b1 b2) (cR a1 a2 b1 b2) (cH a1 a2 b1 b2) (cV c1 c2 d1 d2) (cI c1 c2 d1 d2) (cR c1 c2 d1 d2) (cH c1 c2 d1 d2)
 else true
theorem Va {a1 a2 b1 b2 c1 c2 d1 d2 s1 s2 bC bE t1 t2 t3 t4 : Int} {M : eI} {r : Bool} (aT : aC ag 93 [aK a1 a2, aK b1 b2, aK c1 c2, aK d1 d2] (oh M))
  (mm : aC ag 124 [aK a1 a2, aK b1 b2] (jf s1 s2 bC bE)) (rl : aC ag 124 [aK c1 c2, aK d1 d2] (jf t1 t2 t3 t4))
  (ap : (if M.k = 1 then b8 a1 a2 c1 c2 || b8 a1 a2 d1 d2 || b8 b1 b2 c1 c2 || b8 b1 b2 d1 d2 else if M.k = 2 then pz s1 s2 bC bE t1 t2 t3 t4 else true) = r) : aC ag 138 [aK a1 a2, aK b1 b2, aK c1 c2, aK d1 d2] (bk r) := by
 obtain ⟨k, n, d, m, e, p1, p2, q1, q2⟩ := M;simp only at ap aT
 have cs : (k = 1 ∧ b8 a1 a2 c1 c2 = true ∧ r = true) ∨ (k = 1 ∧ b8 a1 a2 c1 c2 = false ∧ b8 a1 a2 d1 d2 = true ∧ r = true) ∨ (k = 1 ∧ b8 a1 a2 c1 c2 = false ∧ b8 a1 a2 d1 d2 = false ∧ b8 b1 b2 c1 c2 = true ∧ r = true) ∨ (k = 1 ∧ b8 a1 a2 c1 c2 = false ∧ b8 a1 a2 d1 d2 = false ∧ b8 b1 b2 c1 c2 = false ∧ r = b8 b1 b2 d1 d2) ∨ (¬ k = 1 ∧ k = 2 ∧ r = pz s1 s2 bC bE t1 t2 t3 t4) ∨ (¬ k = 1 ∧ ¬ k = 2 ∧ r = true) := by
  rw [← ap]
  by_cases h1 : k = 1
  ·rw [if_pos h1];cases b8 a1 a2 c1 c2 <;> cases b8 a1 a2 d1 d2 <;> cases b8 b1 b2 c1 c2 <;> simp [h1]
  ·rw [if_neg h1]
   by_cases h2 : k = 2
   ·rw [if_pos h2]; simp [h2]
   ·rw [if_neg h2]; simp [h1, h2]
 clear ap;refine bm (f := 138) Tryz.func138 rfl rfl rfl rfl ?_;(refine bY ?_);clear aT;rcases cs with ⟨h1, h2, rfl⟩ | ⟨h1, h2, an, rfl⟩ | ⟨h1, h2, an, aE, rfl⟩ | ⟨h1, h2, an, aE, rfl⟩ | ⟨h1, h2, rfl⟩ | ⟨h1, h2, rfl⟩
 all_goals
  (repeat first | refine ez ?_ | refine jB ?_ | (with_reducible apply cW (c := true)); rfl; rfl; (assumption) | (with_reducible apply cW (c := false)); rfl; rfl; (assumption))
  ((refine bc rfl (bf rfl aN) ?_))
  first | exact ah.aQ.refl _ | exact ah.aQ.of_eq (by rw [h2]; rfl) | exact ah.aQ.of_eq (by rw [an]; rfl) | exact ah.aQ.of_eq (by rw [aE]; rfl)
theorem ac6 {a1 a2 b1 b2 c1 c2 d1 d2 : Int} : aC ag 138 [aK a1 a2, aK b1 b2, aK c1 c2, aK d1 d2] (bk (rO (kp a1 a2 b1 b2 c1 c2 d1 d2) a1 a2 b1 b2 c1 c2 d1 d2)) :=
 Va H5 Dx Dx rfl
end Go.Proofs.YtbcecodakfejaaaGreat
namespace Go.Proofs.YtbcecodakfejaaaGreat.bu
abbrev bS := ao × ao
def lC (r : Nat) (p : ao) : ao := (cC p.1 r, cC p.2 r)
abbrev mx : bS := ((0, 0), (0, 0))
def ht (a b : bS) : eI := fm a.1.1 a.1.2 a.2.1 a.2.2 b.1.1 b.1.2 b.2.1 b.2.2
def tg (a b : bS) : Bool := rO (ht a b) a.1.1 a.1.2 a.2.1 a.2.2 b.1.1 b.1.2 b.2.1 b.2.2
def iG (r : Nat) (M : eI) : ao := (gm (2 ^ r) M.n M.d, gm (2 ^ r) M.m M.e)
def yu (r : Nat) (p : ao) : ao := (2 ^ r * p.1, 2 ^ r * p.2)
def fz (r : Nat) (l : ao × ao) : bS := (yu r l.1, yu r l.2)
def MV (r : Nat) (p q x : ao) : Bool := qS (2 ^ r * p.1) (2 ^ r * p.2) (2 ^ r * q.1) (2 ^ r * q.2) r x
def fL (p q : ao) (l : List ao) : List ao := rb (decide (q.1 < p.1)) (decide (q.2 < p.2)) (fun _ => true) l
def rM (r : Nat) (l m : ao × ao) : Option ao := if (ht (fz r l) (fz r m)).k = 1 ∧ tg (fz r l) (fz r m) = false then some (iG r (ht (fz r l) (fz r m))) else none
def z8 (r : Nat) (a b : bS) : Option ao := if (ht a b).k = 1 then some (iG r (ht a b)) else none
def qZ (E : List bS) (r R : Nat) : cU ao where
 Cn := MV r
 gO := fL
 cut := rM r
 n := E.length
 P i := lC r (E.getD i mx).1
 Q i := lC r (E.getD i mx).2
 tZ i j := z8 r (E.getD i mx) (E.getD j mx)
 R := R
 hh x := eM r x.1 x.2 = true
def gJ (p : ao) : Bool := decide (-134217728 ≤ p.1) && decide (p.1 < 134217728) && decide (-134217728 ≤ p.2) && decide (p.2 < 134217728)
def gI (E : List bS) : Bool := E.all fun e => gJ e.1 && gJ e.2
theorem sr {p : ao} : gJ p = true ↔ ((-134217728 ≤ p.1 ∧ p.1 < 134217728) ∧ -134217728 ≤ p.2 ∧ p.2 < 134217728) := by
 unfold gJ; simp only [dc, cq]; omega
theorem qV {E : List bS} (h : gI E = true) (i : Nat) : gJ (E.getD i mx).1 = true ∧ gJ (E.getD i mx).2 = true := by
 rw [gy];cases he : E[i]? with
 | none => exact ⟨by decide, by decide⟩
 | some e =>
  have := cB.1 h e (c7 he);exact Bool.and_eq_true_iff.1 this
theorem B3 (v : Int) (r : Nat) : cC v r = gm (2 ^ r) v 1 := by
 unfold cC gm; rw [Int.mul_one]
theorem QF {S X W uJ bh : Int} (hS : 0 < S) (dS : 0 < W) (yS : 0 < bh) (h : X * bh ≤ uJ * W) : gm S X W ≤ gm S uJ bh := by
 obtain ⟨a1, a2⟩ := DM hS dS X;obtain ⟨b1, b2⟩ := DM hS yS uJ;generalize gm S X W = g at *;generalize gm S uJ bh = jk at *;refine Int.not_lt.1 fun bg => ?_;have h1 : S * (jk + 1) ≤ S * g := pY bg (by omega);rw [Int.mul_add, Int.mul_one] at h1;generalize S * g = G at *;generalize S * jk = wa at *;have c1 : (2 * wa + S) * W ≤ (2 * G - S) * W := n8 (by omega) (by omega);have c2 : (2 * wa + S) * W ≤ 2 * X := by omega
 have ke : (2 * wa + S) * W * bh ≤ 2 * X * bh := n8 c2 (by omega);have uP : 2 * uJ * W < (2 * wa + S) * bh * W := Int.mul_lt_mul_of_pos_right b2 dS;have aF : (2 * wa + S) * W * bh = (2 * wa + S) * bh * W := by rw [kv, hA W, ← kv]
 have aM : 2 * X * bh = 2 * (X * bh) := kv ..;have cg : 2 * uJ * W = 2 * (uJ * W) := kv ..;omega
theorem AN {m lo hi x : Int} (h1 : wi m lo = true) (h2 : wi m hi = true) (an : lo ≤ x) (aE : x ≤ hi) : wi m x = true := by
 unfold wi at *; simp only [dc, cq] at *; omega
theorem WA {r : Nat} (ap : r ≤ 28) : wi (134217728 / 2 ^ r) (cC (-134217728) r) = true ∧ wi (134217728 / 2 ^ r) (cC 134217727 r) = true := by
 have : r = 0 ∨ r = 1 ∨ r = 2 ∨ r = 3 ∨ r = 4 ∨ r = 5 ∨ r = 6 ∨ r = 7 ∨ r = 8 ∨ r = 9 ∨ r = 10 ∨ r = 11 ∨ r = 12 ∨ r = 13 ∨ r = 14 ∨ r = 15 ∨ r = 16 ∨ r = 17 ∨ r = 18 ∨ r = 19 ∨ r = 20 ∨ r = 21 ∨ r = 22 ∨ r = 23 ∨ r = 24 ∨ r = 25 ∨ r = 26 ∨ r = 27 ∨ r = 28 := by omega
 rcases this with rfl | rfl | rfl | rfl | rfl | rfl | rfl | rfl | rfl | rfl | rfl | rfl | rfl | rfl | rfl | rfl | rfl | rfl | rfl | rfl | rfl | rfl | rfl | rfl | rfl | rfl | rfl | rfl | rfl <;> exact ⟨by decide, by decide⟩
theorem DN {r : Nat} (ap : r ≤ 28) {X W : Int} (dS : 0 < W) (h1 : -134217728 * W ≤ X) (h2 : X ≤ 134217727 * W) : wi (134217728 / 2 ^ r) (gm (2 ^ r) X W) = true := by
 have hS : (0 : Int) < 2 ^ r := hO (by decide);have g := WA ap;rw [B3, B3] at g;exact AN g.1 g.2 (QF hS (by decide) dS (by omega)) (QF hS dS (by decide) (by omega))
theorem Df {r : Nat} (ap : r ≤ 28) {p : ao} (h : gJ p = true) : eM r (lC r p).1 (lC r p).2 = true := by
 have h := sr.1 h;unfold eM lC;rw [B3, B3, DN ap (by decide) (by omega) (by omega), DN ap (by decide) (by omega) (by omega)]; rfl
theorem Hq {a b : bS} (h : (ht a b).k = 1) : ∃ X Y W bh, ht a b = gl X W Y bh := by
 unfold ht fm at h ⊢
 split at h
 ·rename_i hw;rw [if_pos hw];unfold pQ inl at h ⊢
  split at h
  ·rename_i vg;rw [if_pos vg];unfold pP at h ⊢
   split at h
   ·rename_i he;rw [if_pos he]; exact ⟨_, _, _, _, rfl⟩
   ·simp [kc] at h
  ·simp [e7] at h
 ·rename_i hw;rw [if_neg hw];unfold kG pS at h ⊢
  split at h
  ·rename_i ar;rw [if_pos ar]; exact ⟨_, _, _, _, rfl⟩
  ·simp [e7] at h
theorem Wh {a b : bS} (h : (ht a b).k = 1) : tg a b = true ↔ (a.1 = b.1 ∨ a.1 = b.2 ∨ a.2 = b.1 ∨ a.2 = b.2) := by
 have e : ∀ p q : ao, b8 p.1 p.2 q.1 q.2 = true ↔ p = q := fun p q => by rw [mz, Prod.ext_iff]
 unfold tg rO;rw [if_pos h];simp only [pX, e, or_assoc]
theorem Vk {r : Nat} {p q : ao} : yu r p = yu r q ↔ p = q := by
 have hS : (2 : Int) ^ r ≠ 0 := by have : (0 : Int) < 2 ^ r := hO (by decide); omega
 unfold yu;rw [Prod.ext_iff, Prod.ext_iff];exact ⟨fun ⟨h1, h2⟩ => ⟨Int.eq_of_mul_eq_mul_left hS h1, Int.eq_of_mul_eq_mul_left hS h2⟩, fun ⟨h1, h2⟩ => ⟨by rw [h1], by rw [h2]⟩⟩
theorem LJ {r : Nat} {l m : ao × ao} (h : (ht (fz r l) (fz r m)).k = 1) : tg (fz r l) (fz r m) = true ↔ pq l m := by
 rw [Wh h]; unfold fz pq; simp only [Vk]
theorem Ij {r : Nat} {a b : bS} {X Y W bh : Int} (e : ht a b = gl X W Y bh) : bh = W ∧ 0 < W ∧ iG r (ht a b) = (gm (2 ^ r) X W, gm (2 ^ r) Y W) ∧ A6 (2 ^ r) X Y W (iG r (ht a b)) := by
 obtain ⟨h1, h2, _⟩ := C4 e;have hS : (0 : Int) < 2 ^ r := hO (by decide);have aM : iG r (ht a b) = (gm (2 ^ r) X W, gm (2 ^ r) Y W) := by rw [e]; unfold iG gl; rw [h1]
 exact ⟨h1, h2, aM, by rw [aM]; exact Zt hS h2⟩
theorem nc {r : Nat} {p : ao} (h : eM r p.1 p.2 = true) : bA (2 ^ r * p.1) (2 ^ r * p.2) = true := by
 have h := (zz r _ _).1 h;unfold bA; simp only [dc, cq]; omega
theorem Re (E : List bS) {r : Nat} (ap : r ≤ 28) (R : Nat) : wk (2 ^ r) (qZ E r R) where
 pos := hO (by decide)
 Yf p q x h := by
  have h : qS _ _ _ _ _ _ = true := h;unfold qS at h;rw [Gs ap, HA] at h;exact h.2.2
 MU p q x hp al aa h := by
  show qS _ _ _ _ _ _ = true;unfold qS;have aa : eM r x.1 x.2 = true := aa;have kF := (zz r _ _).1 aa;have ai7 := DK ap;rw [Gs ap, HA, aaU];refine ⟨aa, ⟨nc hp, nc al, ?_, ?_, rfl⟩, h⟩
  ·rw [BI]; omega
  ·rw [BI]; omega
 Ld l m x h := by
  have h : rM r l m = some x := h;unfold rM at h
  split at h
  ·rename_i af;cases h;obtain ⟨X, Y, W, bh, e⟩ := Hq af.1;refine ⟨fun hs => ?_, X, Y, W, bh, e, (Ij e).2.2.2⟩;have := (LJ af.1).2 hs;rw [af.2] at this; cases this
  ·cases h
 Le l m _ _ _ _ h af := by
  have h : rM r l m = none := h;unfold rM at h
  split at h
  ·cases h
  ·rename_i ax;refine (LJ af).1 ?_;cases he : tg (fz r l) (fz r m) with
   | true => rfl
   | false => exact absurd ⟨af, he⟩ ax
def vM (r : Nat) (V : List ao) (D : List Int) : Prop :=
 V ≠ [] ∧ V.length = D.length + 1 ∧ (∀ v ∈ V, eM r v.1 v.2 = true) ∧ ic (· ≠ ·) V ∧ (ic (fun p q => p.1 ≤ q.1) V ∨ ic (fun p q => q.1 ≤ p.1) V) ∧ (ic (fun p q => p.2 ≤ q.2) V ∨ ic (fun p q => q.2 ≤ p.2) V)
theorem Fo {R T : ao → ao → Prop} : ∀ {l : List ao}, ic R l → ic T l → ic (fun p q => R p q ∧ T p q) l
 | [], _, _ => trivial
 | [_], _, _ => trivial
 | p :: q :: W, h, aO => ⟨⟨h.1, aO.1⟩, Fo (l := q :: W) h.2 aO.2⟩
theorem K5 {R : ao → ao → Prop} (aB : ∀ a b c, R a b → R b c → R a c) : ∀ {l : List ao}, ic R l → l.Pairwise R
 | [], _ => .nil
 | [_], _ => by simp
 | p :: q :: W, h => by
  have b5 := K5 aB (l := q :: W) h.2;refine je.2 ⟨fun x aa => ?_, b5⟩;rcases fD.1 aa with rfl | aa
  ·exact h.1
  ·exact aB _ _ _ h.1 ((je.1 b5).1 x aa)
theorem BE {R T : ao → ao → Prop} (h1 : ∀ a b c, R a b → R b c → R a c) (h2 : ∀ a b c, T a b → T b c → T a c) (aJ : ∀ a b, R a b → R b a → T a b → T b a → a = b) {l : List ao} (ap : ic R l) (aB : ic T l) (ax : ic (· ≠ ·) l) : l.Nodup := by
 have := K5 (R := fun p q => (R p q ∧ T p q) ∧ p ≠ q) (fun a b c x y => ⟨⟨h1 _ _ _ x.1.1 y.1.1, h2 _ _ _ x.1.2 y.1.2⟩, fun e => by subst e; exact x.2 (aJ _ _ x.1.1 y.1.1 x.1.2 y.1.2)⟩) (Fo (Fo ap aB) ax);exact this.imp fun h => h.2
theorem vM.nodup {r : Nat} {V : List ao} {D : List Int} (h : vM r V D) : V.Nodup := by
 obtain ⟨_, _, _, ax, aa, ai⟩ := h;rcases aa with aa | aa <;> rcases ai with ai | ai
 ·exact BE (R := fun p q : ao => p.1 ≤ q.1) (T := fun p q : ao => p.2 ≤ q.2) (fun a b c => Int.le_trans) (fun a b c => Int.le_trans) (fun a b h1 h2 an aE => Prod.ext (Int.le_antisymm h1 h2) (Int.le_antisymm an aE)) aa ai ax
 ·exact BE (R := fun p q : ao => p.1 ≤ q.1) (T := fun p q : ao => q.2 ≤ p.2) (fun a b c => Int.le_trans) (fun a b c h aO => Int.le_trans aO h) (fun a b h1 h2 an aE => Prod.ext (Int.le_antisymm h1 h2) (Int.le_antisymm aE an)) aa ai ax
 ·exact BE (R := fun p q : ao => q.1 ≤ p.1) (T := fun p q : ao => p.2 ≤ q.2) (fun a b c h aO => Int.le_trans aO h) (fun a b c => Int.le_trans) (fun a b h1 h2 an aE => Prod.ext (Int.le_antisymm h2 h1) (Int.le_antisymm an aE)) aa ai ax
 ·exact BE (R := fun p q : ao => q.1 ≤ p.1) (T := fun p q : ao => q.2 ≤ p.2) (fun a b c h aO => Int.le_trans aO h) (fun a b c h aO => Int.le_trans aO h) (fun a b h1 h2 an aE => Prod.ext (Int.le_antisymm h2 h1) (Int.le_antisymm aE an)) aa ai ax
theorem BZ (r : Nat) (a b : Int) : decide ((2 : Int) ^ r * a < 2 ^ r * b) = decide (a < b) := by
 have hS : (0 : Int) < 2 ^ r := hO (by decide);rw [decide_eq_decide];exact ⟨fun h => Int.lt_of_mul_lt_mul_left h (by omega), fun h => Int.mul_lt_mul_of_pos_left h hS⟩
theorem Lo {fx fy : Bool} {p q : ao} : ∀ (l out : List ao), (∀ x ∈ l, x ≠ p ∧ x ≠ q) → (out ++ l).Nodup → l.foldl (px p q) out = out ++ l
 | [], out, _, _ => by simp
 | x :: l, out, h, hd => by
  have aa := h x (k6 ..);have e : px p q out x = out ++ [x] := if_pos ⟨aa.1, aa.2, fun he => (List.nodup_append.1 hd).2.2 x (List.mem_of_getLast? he) x (k6 ..) rfl⟩;rw [o7, e, Lo (fx := fx) (fy := fy) l (out ++ [x]) (fun y ai => h y (o4 _ ai)) (by simpa using hd), iu]; rfl
theorem agk {fx fy : Bool} {f g : ao → Bool} {l : List ao} (h : ∀ x ∈ l, f x = g x) : rb fx fy f l = rb fx fy g l := by
 unfold rb
 have key : ∀ (l out : List ao), (∀ x ∈ l, f x = g x) → l.foldl (fun out q => if f q then l3 fx fy q out else out) out = l.foldl (fun out q => if g q then l3 fx fy q out else out) out := by
  intro l
  induction l with
  | nil => intro out _; rfl
  | cons x l b5 =>
   intro out h;rw [o7, o7, h x (k6 ..)];exact b5 _ fun y ai => h y (o4 _ ai)
 exact key l [] h
theorem FY {E : List bS} {r R : Nat} {p q x : ao} : jl (qZ E r R) p q x = true ↔ x ≠ p ∧ x ≠ q ∧ MV r p q x = true := by
 unfold jl; simp only [dc, cq, and_assoc]; exact Iff.rfl
theorem Ax (p q : ao) (bi : List ao) : (fL p q bi).Perm bi := by
 have := Ee (decide (q.1 < p.1)) (decide (q.2 < p.2)) (fun _ => true) bi;rwa [List.filter_eq_self.2 (fun _ _ => rfl)] at this
theorem IW {E : List bS} {r R : Nat} {p q : ao} {bi : List ao} (ax : bi.Nodup) (h : ∀ x ∈ bi, jl (qZ E r R) p q x = true) : fL p q bi = rG r bi p q := by
 unfold rG Ln;rw [BZ, BZ, ← agk (f := fun _ => true) (g := qS (2 ^ r * p.1) (2 ^ r * p.2) (2 ^ r * q.1) (2 ^ r * q.2) r) (fun x aa => ((FY.1 (h x aa)).2.2).symm)];have hp := Ax p q bi;show fL p q bi = (fL p q bi).foldl (px p q) [];rw [Lo (fx := false) (fy := false) (fL p q bi) [] (fun x aa => ⟨(FY.1 (h x (hp.mem_iff.1 aa))).1, (FY.1 (h x (hp.mem_iff.1 aa))).2.1⟩) (by simpa using hp.nodup_iff.2 ax)];rfl
theorem K4 {R : ao → ao → Prop} : ∀ {A B : List ao} {q : ao}, ic R (A ++ q :: B) → ic R (A ++ [q]) ∧ ic R (q :: B)
 | [], _, _, h => ⟨trivial, h⟩
 | [a], _, _, h => ⟨⟨h.1, trivial⟩, h.2⟩
 | a :: b :: A, B, q, h => by
  have b5 := K4 (A := b :: A) h.2;exact ⟨⟨h.1, b5.1⟩, b5.2⟩
theorem agQ {V : List ao} {j : Nat} {p q : ao} (hp : V[j]? = some p) (al : V[j + 1]? = some q) : ∃ A B, V = A ++ p :: q :: B ∧ A.length = j ∧ ∀ l, dl V j l = A ++ p :: (l ++ q :: B) := by
 obtain ⟨h1, aF⟩ := bM.1 hp;obtain ⟨h2, aM⟩ := bM.1 al;have hd := VW hp al;refine ⟨V.take j, V.drop (j + 2), by rw [← hd, j2], by rw [dK]; omega, fun l => ?_⟩;unfold dl;rw [j3 h1, aF, mN h2, aM];simp
theorem yv {R : ao → ao → Prop} {V l : List ao} {j : Nat} {p q : ao} (hp : V[j]? = some p) (al : V[j + 1]? = some q) (h : ic R V) (ak : R p q → ic R (p :: (l ++ [q]))) : ic R (dl V j l) := by
 obtain ⟨A, B, e, _, FA⟩ := agQ hp al;rw [FA];rw [e] at h;obtain ⟨h1, h2⟩ := K4 h;refine Fp h1 ?_;have an := ak h2.1;have := Fp (A := p :: l) (q := q) (W := B) an h2.2;exact this
theorem vM.cut {E : List bS} {r R : Nat} (ap : r ≤ 28) {V : List ao} {D : List Int} (h : vM r V D) {j : Nat} {p q : ao} {bi : List ao} (hp : V[j]? = some p) (al : V[j + 1]? = some q) (ax : bi.Nodup) (aq : ∀ x ∈ bi, jl (qZ E r R) p q x = true) : vM r (dl V j (fL p q bi)) (ey D j bi.length) := by
 obtain ⟨h1, h2, an, aE, fh, jM⟩ := h;have hS : (0 : Int) < 2 ^ r := hO (by decide);have ae := (bM.1 al).1;rw [IW ax aq];have lX := Bs ap bi p q;have hlen : (rG r bi p q).length = bi.length := by rw [← IW ax aq]; exact (Ax p q bi).length_eq
 refine ⟨fun aD => ?_, ?_, fun v hv => ?_, ?_, ?_, ?_⟩
 ·have := congrArg List.length aD;rw [yw, List.length_nil] at this; omega
 ·rw [yw, Fv (by omega), hlen]; omega
 ·rcases Lj hv with hv | hv
  ·exact an v hv
  ·exact (lX.2.1 v hv).2.1
 ·exact yv hp al aE fun ik => UP ap bi p q ik
 ·refine fh.imp (fun h => yv hp al h fun ik => Bt ap bi p q ik (fun x aa => ?_) (fun x y u w hu hw r8 => ?_)) (fun h => yv hp al h fun ik => Bt ap bi p q ik (fun x aa => ?_) (fun x y u w hu hw r8 => ?_))
  ·obtain ⟨u, hu⟩ := aa; exact (C7 hS hu.1.1 hu.1.2 hu.2.1).1 ik
  ·exact C9 hS hu.2.1 hw.2.1 r8 ik
  ·obtain ⟨u, hu⟩ := aa; exact ((C7 hS hu.1.1 hu.1.2 hu.2.1).2 ik).symm
  ·exact C8 hS hu.2.1 hw.2.1 r8 ik
 ·refine jM.imp (fun h => yv hp al h fun ik => Bt ap bi p q ik (fun x aa => ?_) (fun x y u w hu hw r8 => ?_)) (fun h => yv hp al h fun ik => Bt ap bi p q ik (fun x aa => ?_) (fun x y u w hu hw r8 => ?_))
  ·obtain ⟨u, hu⟩ := aa; exact (C7 hS hu.1.1 hu.1.2 hu.2.2).1 ik
  ·exact C9 hS hu.2.2 hw.2.2 r8 ik
  ·obtain ⟨u, hu⟩ := aa; exact ((C7 hS hu.1.1 hu.1.2 hu.2.2).2 ik).symm
  ·exact C8 hS hu.2.2 hw.2.2 r8 ik
def su (r : Nat) (e : bS) (d : Int) (t : Rat) (x : ao) : Prop := xu e.1.1 e.1.2 e.2.1 e.2.2 (2 ^ r) (bn d * bn (2 ^ r)) t x
theorem abR {r : Nat} {e : bS} {d d' : Int} (h : d ≤ d') {t : Rat} {x : ao} (aa : su r e d t x) : su r e d' t x := by
 refine abT ?_ aa;have hS : (0 : Rat) < bn (2 ^ r) := p5 (hO (by decide));exact Rat.mul_le_mul_of_nonneg_right (q6.2 h) (Rat.le_of_lt hS)
theorem K7 {r : Nat} {e : bS} {p q : ao} {d : Int} {t1 t2 : Rat} (yK : t1 ≤ t2) (F0 : t2 ≤ 1) (hp : su r e d t1 p) (al : su r e d t2 q) : ∀ (l : List ao) (kz : Rat), 0 ≤ kz → kz ≤ 1 → (∀ x ∈ l, ∀ u, qj (2 ^ r) p q u x → kz ≤ u) → (∀ x ∈ l, ∃ u, qj (2 ^ r) p q u x) → j8 (decide ((2 : Int) ^ r * q.1 < 2 ^ r * p.1)) (decide ((2 : Int) ^ r * q.2 < 2 ^ r * p.2)) l → BG (su r e) (d + 1) t2 (t1 + kz * (t2 - t1)) l
 | [], kz, aD, h1, _, _, _ => by
  show t1 + kz * (t2 - t1) ≤ t2;have := kw (show 0 ≤ 1 - kz by grind) (show 0 ≤ t2 - t1 by grind);grind
 | x :: l, kz, aD, h1, hu, hm, aJ => by
  have hS : (0 : Int) < 2 ^ r := hO (by decide);obtain ⟨u, xg⟩ := hm x (k6 ..);have aj := je.1 aJ;have h2 := hu x (k6 ..) u xg;have bl := kw (show 0 ≤ u - kz by grind) (show 0 ≤ t2 - t1 by grind);have bJ := kw (show 0 ≤ 1 - u by have := xg.1.2; grind) (show 0 ≤ t2 - t1 by grind)
  have aa : su r e (d + 1) (t1 + u * (t2 - t1)) x := by
   have := abS hp al xg;unfold su;rw [show bn (d + 1) = bn d + 1 by simp [bn, sF]];exact this
  exact ⟨t1 + u * (t2 - t1), by grind, by grind, aa, K7 yK F0 hp al l u xg.1.1 xg.1.2 (fun y ai w hw => Ox hS xg hw (aj.1 y ai)) (fun y ai => hm y (o4 _ ai)) aj.2⟩
def tQ (E : List bS) (r : Nat) (i : Nat) (c : List ao × List Int) : Prop := vM r c.1 c.2 ∧ rK (su r (E.getD i mx)) 0 c.1 c.2
theorem Dn {r : Nat} (a b : Int) : ss (bn a) (bn b) (2 * (bn (2 ^ r) * bn (cC a r))) (bn 1 * bn (2 ^ r)) 0 ∧ ss (bn b) (bn a) (2 * (bn (2 ^ r) * bn (cC a r))) (bn 1 * bn (2 ^ r)) 1 := by
 have ej : (0 : Int) < 2 ^ r := hO (by decide);obtain ⟨g0, g1⟩ : 2 * (cC a r * 2 ^ r) ≤ 2 * a + 2 ^ r ∧ 2 * a + 2 ^ r < 2 * (cC a r * 2 ^ r) + 2 * 2 ^ r := WW ej;have di := q6.2 g0;have q1 := Is.2 g1;have z : bn 1 = 1 := by simp [bn]
 rw [z];simp only [bn, sF, Rat.intCast_mul] at di q1 ⊢;generalize ((2 ^ r : Int) : Rat) = S at *;generalize ((cC a r : Int) : Rat) = g at *;generalize ((a : Int) : Rat) = a' at *;generalize ((b : Int) : Rat) = bT at *;have aM : ((2 : Int) : Rat) = 2 := by simp
 rw [aM] at di q1;refine ⟨⟨?_, ?_⟩, ?_, ?_⟩ <;> grind
theorem Vr {r : Nat} (e : bS) : rK (su r e) 0 (hx (lC r e.1) (lC r e.2)).1 (hx (lC r e.1) (lC r e.2)).2 :=
 Vq ⟨(Dn e.1.1 e.2.1).1, (Dn e.1.2 e.2.2).1⟩ ⟨(Dn e.2.1 e.1.1).2, (Dn e.2.2 e.1.2).2⟩
theorem abI {r : Nat} {p q : ao} (hp : eM r p.1 p.2 = true) (al : eM r q.1 q.2 = true) : vM r (hx p q).1 (hx p q).2 := by
 unfold hx
 split
 ·exact ⟨by simp, rfl, fun v hv => by rw [mg.1 hv]; exact hp, trivial, .inl trivial, .inl trivial⟩
 ·rename_i bU;refine ⟨by simp, rfl, fun v hv => ?_, ⟨bU, trivial⟩, ?_, ?_⟩
  ·simp only [fD, sC, or_false] at hv;rcases hv with rfl | rfl
   ·exact hp
   ·exact al
  ·rcases Int.le_total p.1 q.1 with h | h
   ·exact .inl ⟨h, trivial⟩
   ·exact .inr ⟨h, trivial⟩
  ·rcases Int.le_total p.2 q.2 with h | h
   ·exact .inl ⟨h, trivial⟩
   ·exact .inr ⟨h, trivial⟩
theorem KI {X W a b n d : Int} (dS : 0 < W) (hd : 0 < d) (ax : 0 ≤ n ∧ n ≤ d) (e : X * d = W * (a * (d - n) + b * n)) {lo hi : Int} (aJ : lo ≤ a ∧ a ≤ hi) (ab : lo ≤ b ∧ b ≤ hi) : lo * W ≤ X ∧ X ≤ hi * W := by
 have a1 := gM (show 0 ≤ a - lo by omega) (show 0 ≤ d - n by omega);have a2 := gM (show 0 ≤ hi - a by omega) (show 0 ≤ d - n by omega);have b1 := gM (show 0 ≤ b - lo by omega) ax.1;have b2 := gM (show 0 ≤ hi - b by omega) ax.1;have s1 : lo * d ≤ a * (d - n) + b * n := by grind
 have s2 : a * (d - n) + b * n ≤ hi * d := by grind
 have t1 := pY s1 (mQ dS);have t2 := pY s2 (mQ dS);rw [← e] at t1 t2;refine ⟨Int.le_of_mul_le_mul_right ?_ hd, Int.le_of_mul_le_mul_right ?_ hd⟩
 ·rw [show lo * W * d = W * (lo * d) by grind]; exact t1
 ·rw [show hi * W * d = W * (hi * d) by grind]; exact t2
theorem Qo {r : Nat} (ap : r ≤ 28) {a b : bS} (h1 : gJ a.1 = true) (h2 : gJ a.2 = true) {x : ao} (h : z8 r a b = some x) : eM r x.1 x.2 = true := by
 unfold z8 at h
 split at h
 ·rename_i af;cases h;obtain ⟨X, Y, W, bh, e⟩ := Hq af;obtain ⟨q1, q2, bO, _⟩ := Ij (r := r) e;obtain ⟨_, _, ⟨n, d, g1, g2, g3, g4⟩, _⟩ := C4 e;have b3 := sr.1 h1;have b7 := sr.1 h2;obtain ⟨c1, c2⟩ := KI q2 g1 g2 g3 (lo := -134217728) (hi := 134217727) (by omega) (by omega);obtain ⟨ke, uP⟩ := KI q2 g1 g2 g4 (lo := -134217728) (hi := 134217727) (by omega) (by omega);rw [bO];unfold eM;rw [DN ap q2 c1 c2, DN ap q2 ke uP]; rfl
 ·cases h
theorem Ll {r : Nat} {l m : ao × ao} (h1 : eM r l.1.1 l.1.2 = true) (h2 : eM r l.2.1 l.2.2 = true) {x : ao} (h : rM r l m = some x) : eM r x.1 x.2 = true := by
 have hS : (0 : Int) < 2 ^ r := hO (by decide);unfold rM at h
 split at h
 ·rename_i af;cases h;obtain ⟨X, Y, W, bh, e⟩ := Hq af.1;obtain ⟨q1, q2, bO, dj⟩ := Ij (r := r) e;obtain ⟨_, _, ⟨n, d, g1, g2, g3, g4⟩, _⟩ := C4 e;generalize iG r (ht (fz r l) (fz r m)) = x at *;obtain ⟨⟨i1, i2⟩, i3, i4⟩ := dj;have v1 := QH hS q2 g1 g2 g3 i1 i2;have v2 := QH hS q2 g1 g2 g4 i3 i4;unfold eM at h1 h2 ⊢;rw [dc] at h1 h2 ⊢;refine ⟨?_, ?_⟩
  ·rcases Int.le_total l.1.1 l.2.1 with h | h
   ·exact AN h1.1 h2.1 (v1.1 h).1 (v1.1 h).2
   ·exact AN h2.1 h1.1 (v1.2 h).1 (v1.2 h).2
  ·rcases Int.le_total l.1.2 l.2.2 with h | h
   ·exact AN h1.2 h2.2 (v2.1 h).1 (v2.1 h).2
   ·exact AN h2.2 h1.2 (v2.2 h).1 (v2.2 h).2
 ·cases h
theorem afa {E : List bS} {r R : Nat} (ap : r ≤ 28) (fF : gI E = true) : j9 (qZ E r R) (tQ E r) where
 nodup i c h := h.1.nodup
 new i hi := ⟨abI (Df ap (qV fF i).1) (Df ap (qV fF i).2), Vr _⟩
 split i c j p q bi h hlen hp al ax _ aq := by
  refine ⟨h.1.cut ap hp al ax aq, ?_⟩;have YG := Ax p q bi;have e : bi.length = (fL p q bi).length := YG.length_eq.symm;show rK _ _ (dl c.1 j (fL p q bi)) (ey c.2 j bi.length);rw [e];refine K8 (fun d t x aa => abR (by omega) aa) (fun d t1 t2 yK F0 h1 h2 => ?_) c.1 c.2 j 0 hlen hp al h.2;have lX := Bs ap bi p q;rw [IW ax aq];have := K7 yK F0 h1 h2 (rG r bi p q) 0 Rat.le_refl (by decide) (fun x aa u hu => hu.1.1) (fun x aa => (lX.2.1 x aa).2.2) lX.1;rwa [show t1 + 0 * (t2 - t1) = t1 by grind] at this
 gO := Ax
 FT i _ := ⟨Df ap (qV fF i).1, Df ap (qV fF i).2⟩
 Mm i j x _ _ h := Qo ap (qV fF i).1 (qV fF i).2 h
 Mj p q eB bX x h1 h2 _ _ h := Ll (l := (p, q)) (m := (eB, bX)) h1 h2 h
 cut hot p q eB bX x aq _ _ h1 h2 an aE cY fh h := (Re E ap R).VG hot p q eB bX x aq h1 h2 an aE cY fh h
variable {α : Type} [DecidableEq α]
theorem NQ (o : cU α) : ∀ (m n : Nat) (s : aV α), lz o (m + n) s = lz o n (lz o m s)
 | 0, n, s => by rw [jd]; rfl
 | m + 1, n, s => by
  rw [show m + 1 + n = (m + n) + 1 by omega];exact NQ o m n (eQ o s)
def eN (o : cU α) : Nat → aV α → Nat × aV α
 | 0, s => (0, s)
 | n + 1, s => if 4 ≤ s.ph then (0, s) else ((eN o n (eQ o s)).1 + 1, (eN o n (eQ o s)).2)
theorem afu {o : cU α} {s : aV α} (h : 4 ≤ s.ph) : ∀ n, eN o n s = (0, s)
 | 0 => rfl
 | n + 1 => if_pos h
theorem D4 {o : cU α} : ∀ (n : Nat) (s : aV α), (eN o n s).2 = lz o (eN o n s).1 s ∧ (eN o n s).1 ≤ n ∧ ((eN o n s).1 < n → 4 ≤ (eN o n s).2.ph)
 | 0, s => ⟨rfl, dJ _, fun h => absurd h (by show ¬ 0 < 0; omega)⟩
 | n + 1, s => by
  obtain ⟨h1, h2, an⟩ := D4 n (eQ o s);unfold eN
  by_cases h : 4 ≤ s.ph
  ·rw [if_pos h]; exact ⟨rfl, dC _, fun _ => h⟩
  ·rw [if_neg h]; exact ⟨h1, by show _ + 1 ≤ n + 1; omega, fun aU => an (by have : (eN o n (eQ o s)).1 + 1 < n + 1 := aU; omega)⟩
end Go.Proofs.YtbcecodakfejaaaGreat.bu
namespace Go.Proofs.YtbcecodakfejaaaGreat
open Go.RowKit
section
variable {P : Program} {a8 : eH} {bp A : Nat → Prop} {R : aI} {s s' : aA} {a a' : Act} {w w' : World} {ad aY : Nat → Nat}
theorem eA.Vv (aw : eA a8 bp R s a w A ad) (i : Nat) (r : bG) (hi : R i = some r) (bI : 0 < r.sz) : ∃ dR, eA a8 bp (fun j => if j = i then none else R j) s a w dR ad ∧ gh (s.free dR ad) ad w (.p (cc r.sz r.n r.aS)) r.v := by
 obtain ⟨oI, cZ, aq⟩ := aw.rows i r hi;obtain ⟨xs, az, ak⟩ := oI.row bI;have uZ : ∀ b, s.free A ad b → b < w.heap.size → s.free (fun b => A b ∨ r.v.ownBlock = some b) ad b ∧ w.heap[b]? = w.heap[b]? := fun b ab _ => ⟨⟨.inl ab.1, ab.2⟩, rfl⟩;have u2 : Rel (lq a8 s ad w) (fun b => A b ∨ r.v.ownBlock = some b) s ad a w := aw.rel.uM (fun b ab _ => ⟨.inl ab, rfl⟩) (fun k cs af => ⟨rfl, fun ar => ar.2 k cs af rfl⟩) (iN.refl _) (fun b ab => .inl (aw.rel.up b ab)) (u5 _ _ _)
 have qC : eA a8 bp (fun j => if j = i then none else R j) s a w (fun b => A b ∨ r.v.ownBlock = some b) ad := by
  refine ⟨aw.up, ?_, u2, aw.oS, aw.below, fun j q ae => ?_, fun j k q bX ae af kZ => ?_, fun j q g ae => ?_, aw.jH⟩
  ·rintro b (ab | ab)
   ·exact aw.sub b ab
   ·exact (aw.hot i r b hi (.inl ab)).2
  ·have gw : j ≠ i := fun e => by rw [if_pos e] at ae; cases ae
   rw [if_neg gw] at ae;obtain ⟨lu, AD, AE⟩ := aw.rows j q ae;refine ⟨lu.kept AD (fun _ _ => rfl) (dJ _) uZ, AD, fun g eo => ⟨?_, (AE g eo).2⟩⟩;rintro (ab | ab)
   ·exact (AE g eo).1 ab
   ·exact aw.apart i j r q hi ae (Ne.symm gw) g (.inl ab) eo
  ·have gw : j ≠ i := fun e => by rw [if_pos e] at ae; cases ae
   have jR : k ≠ i := fun e => by rw [if_pos e] at af; cases af
   rw [if_neg gw] at ae;rw [if_neg jR] at af;exact aw.apart j k q bX ae af kZ
  ·have gw : j ≠ i := fun e => by rw [if_pos e] at ae; cases ae
   rw [if_neg gw] at ae;exact aw.hot j q g ae
 refine ⟨fun b => A b ∨ r.v.ownBlock = some b, qC, ?_⟩
 ·have mC := ak.1;obtain ⟨jS, ax | ⟨g, cap, cur, iC, nh, qF, ep, iA, dT, lY⟩⟩ := id az
  ·obtain ⟨aF, aM⟩ := ax;have : r.aS = [] := kt (by rw [mC, jS, aM]; simp);rw [aF];exact ⟨⟨none, 0, by rw [aM], by omega, by rw [this, aM]; simp, fun h => absurd h (by omega)⟩, fun b ⟨c', a', q, ax, ab⟩ => by cases q⟩
  ·have tr := az.cells (g := g) (by rw [iC]; rfl);rw [iC];have qA : kM w ⟨g, 0, none⟩ r.aS xs := ⟨(jv.1 qF).1, ak.wG cZ fun b _ _ => ⟨trivial, rfl⟩, tr, cZ⟩;refine ⟨⟨some ⟨g, 0, none⟩, cap, rfl, ep, by rw [mC]; exact jS, fun ax => ⟨⟨g, 0, none⟩, xs, rfl, qA⟩⟩, ?_⟩;rintro b ⟨c', a', q, ax, ar⟩;cases q;rcases ar with rfl | ⟨j, y, v, ai, hv, fZ⟩
   ·exact ⟨.inr rfl, (aq g (.inl (by rw [iC]; rfl))).2⟩
   ·have bg : j < xs.length := by rw [← mC]; exact (bM.1 ai).1
    have h2 := tr j _ (bN bg);rw [hv] at h2;cases h2;have an := ak.2 j y _ ai (bN bg);cases y with
    | c u => cases fZ
    | own k o => cases fZ
    | p S => have := an.2 b fZ; exact ⟨.inl this.1, this.2⟩
theorem D6 (i k off : Nat) {c : Code} {Q : Exit → aI → aA → Prop} {cs : List AC} (r : bG) (hi : R i = some r) (af : s.mem k = some cs) (aj : cs[off]? = some (.c r.v)) (h : fs P c Q (fun j => if j = i then none else R j) (s.eh k (cs.set off (.p (cc r.sz r.n r.aS))))) (bI : 0 < r.sz := by first | decide | exact jw _) : fs P c Q R s := by
 rintro ok a8 bp a w ⟨A, ad, aw⟩;obtain ⟨dR, B9, w2⟩ := aw.Vv i r hi bI
 have Xj := B9.next (B9.rel.aeV (ds := cs.set off (.p (cc r.sz r.n r.aS))) af fun vs hv => ⟨by rw [List.length_set]; exact hv.1, fun j x u aa hu => by
  rw [List.getElem?_set] at aa
  by_cases e : off = j
  ·subst e;rw [if_pos rfl] at aa
   split at aa
   ·cases aa;obtain ⟨rfl, _⟩ := hv.2 off _ u aj hu;exact w2
   ·cases aa
  ·rw [if_neg e] at aa;exact hv.2 j x u aa hu⟩)
 refine h (ok.eh fun x aa j ae => ?_) a8 bp a w ⟨dR, ad, Xj⟩;rcases List.mem_or_eq_of_mem_set aa with aa | rfl
 ·exact ok.dn k cs x j af aa ae
 ·cases ae
end
section
variable {P : Program} {s : aA} {ops : Array Oper} {K : aA → Prop} {rest : List Oper} {ty : Nat} {pos : String} {after : Array Edge} {guard : Option (Nat × Bool)} {d : Nat}
end
theorem afk {xs aS : List AC} (ak : xs.length = aS.length) (h : ∀ (i : Nat) x y, xs[i]? = some x → aS[i]? = some y → x = y ∨ (x = .c (.slice none 0 0) ∧ ∃ z, y = .p (cc z 0 []))) (U : Nat → Prop) (ad : Nat → Nat) (W : World) (vs : List Value) (hv : bL U ad W xs vs) : bL U ad W aS vs := by
 refine ⟨by rw [← ak]; exact hv.1, fun i y v ai hu => ?_⟩;have hi : i < xs.length := by rw [ak]; exact (bM.1 ai).1
 have aa := bN hi;have h1 := hv.2 i _ v aa hu;rcases h i _ y aa ai with e | ⟨e, z, rfl⟩
 ·rw [← e]; exact h1
 ·rw [e] at h1;exact O1 z U ad W v h1
theorem JU {xs aS : List AC} (ak : xs.length = aS.length) (h : ∀ (i : Nat) x y, xs[i]? = some x → aS[i]? = some y → x = y ∨ (x = .c (.slice none 0 0) ∧ ∃ z, y = .p (cc z 0 []))) : ah.aQ (.w (.agg xs)) (.w (.agg aS)) := fun U ad W v hv => by
 obtain ⟨vs, rfl, e1⟩ := hv;exact ⟨vs, rfl, afk ak h U ad W vs e1⟩
section
variable {U : Nat → Prop} {W : World} {x y : AC} {xs aS : List AC}
end
structure Ts where
 l : Nat
 U : Nat → Prop
 ia : World
 lL : Nat → Prop
 J : Nat → (Nat → Prop) → World → Prop
 ahn : (Nat → Prop) → World → Prop
 xs : List (List ah)
section
variable {P : Program} {X : Ts} {x y c : Code} {Q : Exit → Option Nat → aA → Prop} {g jk : Option Nat} {s s' : aA} {a a' : Act} {w w' w2 : World} {A : Nat → Prop} {ad aY : Nat → Nat} {C : Nat → Prop}
end
def Sg (pd : Bool → Prop) : e0 where
 holds w v := ∃ b, v = .bool b ∧ pd b
 kX w v b := False
 frame w w' v := fun h ar => ⟨h, fun b ab => ab⟩
 ir w v b := fun h ar => ar.elim
 cell w v := by rintro ⟨b, rfl, _⟩; rfl
abbrev AF (pd : Bool → Prop) : ah := .w (.one (.p (Sg pd)))
section
variable {P : Program} {ops : Array Oper} {K : aA → Prop} {rest : List Oper} {s : aA} {d ty : Nat} {pos : String} {after : Array Edge} {guard : Option (Nat × Bool)}
theorem W0 {op : BinOp} {t : TypeId} {x y : Operand} {a : Option Addr} {n c : Nat} {v : Value} : eqGuard op t x y (.slice a n c) v = pure () := by cases op <;> rfl
theorem T3 {t dU sz n e bytes : Nat} {x : Operand} {xs : List AC} [T : kR P t e sz bytes] (hw : want ops ⟨some d, .binOp .eql t x (.const (.slice none 0 0)) dU, ty, pos, after, guard⟩ s = some true) (aa : s.look x = some (cy sz n xs)) (hd : Nat.blt d s.n = true) (h : bb P ops K rest (s.put (some d) (AF fun b => b = true → n = 0))) : bb P ops K (⟨some d, .binOp .eql t x (.const (.slice none 0 0)) dU, ty, pos, after, guard⟩ :: rest) s := by
 obtain ⟨_, _, hu, _⟩ := p7 T.h;refine fN (av := AF fun b => b = true → n = 0) hw ⟨fun _ _ h => (by cases h), fun z aP => ?_, fun U ad W env he => ?_, fun j ae => absurd ae (kI _ j)⟩ hd h
 ·simp [Op.operands] at aP;rcases aP with rfl | rfl
  ·exact ⟨_, aa⟩
  ·exact ⟨_, rfl⟩
 ·obtain ⟨⟨A, c, hv, _, _, de⟩, _⟩ := he x (by simp [Op.operands]) _ aa;have aM : env (.const (.slice none 0 0)) = .slice none 0 0 := (he (.const (.slice none 0 0)) (by simp [Op.operands]) _ rfl).1;refine ⟨.bool A.isNone, ?_, ⟨_, rfl, fun ab => ?_⟩, fun b ab => ab.elim⟩
  ·simp only [execOp, hv, aM, W0, Sem.run_bind, Sem.run_pure, Result.andThen_ok, Lib.run_eql_slice_nil W t e A n c 0 0 hu]
  ·refine Classical.byContradiction fun ax => ?_;obtain ⟨a, _, e, _⟩ := de (by omega);rw [e] at ab; cases ab
end
section
variable {P : Program} {c : Code} {s : aA}
theorem Rel.RJ {B : eH} {A : Nat → Prop} {ad : Nat → Nat} {a : Act} {w : World} {d : Nat} {pd : Bool → Prop} (h : Rel B A s ad a w) (hd : s.tmps d = some (AF pd)) : ∃ b, pd b ∧ Rel B A (s.put (some d) (bk b)) ad a w := by
 obtain ⟨v, h1, ⟨b, rfl, ab⟩, _⟩ := h.hf d _ hd;refine ⟨b, ab, h.Iu hd fun u hu _ => ?_⟩;rw [h1] at hu;cases hu;exact ⟨rfl, rfl⟩
theorem UZ (d : Nat) {Q : Exit → aA → Prop} {pd : Bool → Prop} (hd : s.tmps d = some (AF pd)) (h : ∀ b, pd b → ff P c Q (s.put (some d) (bk b))) : ff P c Q s := by
 intro ok B A ad a w aw;obtain ⟨b, ab, bZ⟩ := aw.RJ hd;exact h b ab (ok.put fun j ae => absurd ae (iE _ j)) B A ad a w bZ
theorem Rn (d : Nat) {Q : Exit → aI → aA → Prop} {R : aI} {pd : Bool → Prop} (hd : s.tmps d = some (AF pd)) (h : ∀ b, pd b → fs P c Q R (s.put (some d) (bk b))) : fs P c Q R s := by
 intro ok a8 bp a w ⟨A, ad, aw⟩;obtain ⟨b, ab, bZ⟩ := aw.rel.RJ hd;exact h b ab (ok.put fun j ae => absurd ae (iE _ j)) a8 bp a w ⟨A, ad, aw.next bZ⟩
end
def AC.vK : AC → Bool
 | .p _ => false
 | _ => true
def nz (m : Mem) (R : aI) : Prop := (∀ k cs, m k = some cs → cs.all AC.vK = true) ∧ ∀ i r, R i = some r → 0 < r.sz ∧ r.aS.all AC.vK = true
theorem bL.plain {U cF : Nat → Prop} {ad : Nat → Nat} {W bh : World} {xs : List AC} {vs : List Value} (h : bL U ad W xs vs) (hp : xs.all AC.vK = true) : bL cF ad bh xs vs := by
 refine ⟨h.1, fun i x v aa hv => ?_⟩;have h1 := h.2 i x v aa hv;have h2 := cB.1 hp x (c7 aa);cases x with
 | c u => exact h1
 | own k o => exact h1
 | p S => cases h2
theorem bG.ok.plain {U cF : Nat → Prop} {ad : Nat → Nat} {W : World} {r : bG} (h : r.ok U ad W) (hs : 0 < r.sz) (hp : r.aS.all AC.vK = true) : r.ok cF ad W := by
 obtain ⟨xs, h1, h2⟩ := h.row hs;exact .inl ⟨hs, xs, h1, h2.plain hp⟩
abbrev nA (b off : Nat) : Value := .pointer (some ⟨b, off, none⟩)
abbrev ea (b : Nat) : Value := nA b 0
abbrev tM : Nat → Prop := fun _ => False
theorem e3.lt {U : Nat → Prop} {ad : Nat → Nat} {W : World} {m : Mem} {R : aI} (h : e3 U ad W m R) {b : Nat} (ab : en ad m R b) : b < W.heap.size := by
 rcases ab with ⟨k, cs, af, rfl⟩ | ⟨i, r, hi, aq⟩
 ·obtain ⟨vs, ty, h1, _⟩ := h.dn k cs af;exact (jv.1 h1).1
 ·exact (h.rows i r hi).1.lt aq
def la (ad : Nat → Nat) (m : Mem) (R : aI) (k : Nat) : e0 where
 holds w v := v = ea (ad k) ∧ e3 tM ad w m R ∧ nz m R
 kX w v b := en ad m R b
 frame := by
  rintro w w' v ⟨rfl, h, hp⟩ ar;refine ⟨⟨rfl, ⟨fun j cs ae => ?_, h.fJ, h.inj, fun i r hi => ?_, h.apart⟩, hp⟩, fun b ab => ab⟩
  ·obtain ⟨vs, ty, h1, h2, an⟩ := h.dn j cs ae;exact ⟨vs, ty, by rw [ar _ (.inl ⟨j, cs, ae, rfl⟩)]; exact h1, h2.plain (hp.1 j cs ae), an⟩
  ·obtain ⟨h1, h2, an⟩ := h.rows i r hi;obtain ⟨xs, g1, g2⟩ := h1.row (hp.2 i r hi).1;exact ⟨.inl ⟨(hp.2 i r hi).1, xs, H3 g1 fun g q => ar g (.inr ⟨i, r, hi, .inl q⟩), g2.plain (hp.2 i r hi).2⟩, h2, an⟩
 ir := fun w v b ⟨_, h, _⟩ ab => h.lt ab
 cell := fun w v ⟨e, _⟩ => by rw [e]; rfl
def Dr (ad : Nat → Nat) (m : Mem) (R : aI) (k : Nat) : bG := ⟨0, 0, ea (ad k), 0, [.p (la ad m R k)]⟩
theorem Pj {ad : Nat → Nat} {m : Mem} {R : aI} {k : Nat} {W : World} (h : e3 tM ad W m R) (hp : nz m R) {b : Nat} : (Dr ad m R k).own b ↔ en ad m R b := by
 constructor
 ·rintro (h1 | ⟨_, S, w, h1, h2, an⟩)
  ·cases h1
  ·cases h1; exact an
 ·exact fun h1 => .inr ⟨rfl, la ad m R k, W, rfl, ⟨rfl, h, hp⟩, h1⟩
theorem Pk {ad : Nat → Nat} {m : Mem} {R : aI} {k : Nat} {b : Nat} (h : (Dr ad m R k).own b) : en ad m R b := by
 rcases h with h1 | ⟨_, S, w, h1, h2, an⟩
 ·cases h1
 ·cases h1; exact an
theorem ab3 {U : Nat → Prop} {ad aY : Nat → Nat} {m : Mem} {R : aI} {k : Nat} {W : World} (h : e3 tM ad W m R) (hp : nz m R) : (Dr ad m R k).ok U aY W :=
 .inr ⟨rfl, rfl, rfl, ⟨_, rfl, rfl, h, hp⟩, fun b ab => h.lt (Pk ab)⟩
theorem ab2 {U : Nat → Prop} {ad aY : Nat → Nat} {m : Mem} {R : aI} {k : Nat} {W : World} (h : (Dr ad m R k).ok U aY W) : e3 tM ad W m R ∧ nz m R := by
 rcases h with ⟨h1, _⟩ | ⟨_, _, _, ⟨S, hS, aU⟩, _⟩
 ·cases h1
 ·cases hS; exact aU.2
theorem e3.sub {U : Nat → Prop} {ad : Nat → Nat} {W : World} {m m1 : Mem} {R ba : aI} (h : e3 U ad W m R) (hm : ∀ k cs, m1 k = some cs → m k = some cs) (ap : bB ba R) (fJ : ∀ k cs x j, m1 k = some cs → x ∈ cs → x.owns j → ∃ au, m1 j = some au) : e3 U ad W m1 ba := by
 refine ⟨fun k cs af => h.dn k cs (hm k cs af), fJ, fun k k' cs au af eL => h.inj k k' cs au (hm k cs af) (hm k' au eL), fun i r hi => ?_, fun i j r q hi ae => h.apart i j r q (ap i r hi) (ap j q ae)⟩;obtain ⟨h1, h2, an⟩ := h.rows i r (ap i r hi);exact ⟨h1, h2, fun g aq => ⟨(an g aq).1, fun k cs af => (an g aq).2 k cs (hm k cs af)⟩⟩
theorem e3.none {U : Nat → Prop} {ad : Nat → Nat} {W : World} {m : Mem} {R : aI} (h : e3 U ad W m R) (hp : nz m R) : e3 tM ad W m R := by
 refine ⟨fun k cs af => ?_, h.fJ, h.inj, fun i r hi => ?_, h.apart⟩
 ·obtain ⟨vs, ty, h1, h2, _⟩ := h.dn k cs af;exact ⟨vs, ty, h1, h2.plain (hp.1 k cs af), id⟩
 ·obtain ⟨h1, h2, an⟩ := h.rows i r hi;exact ⟨h1.plain (hp.2 i r hi).1 (hp.2 i r hi).2, h2, fun g aq => ⟨id, (an g aq).2⟩⟩
theorem e3.more {U : Nat → Prop} {ad : Nat → Nat} {W : World} {m : Mem} {R : aI} (h : e3 tM ad W m R) (hp : nz m R) (dx : ∀ b, en ad m R b → ¬ U b) : e3 U ad W m R := by
 refine ⟨fun k cs af => ?_, h.fJ, h.inj, fun i r hi => ?_, h.apart⟩
 ·obtain ⟨vs, ty, h1, h2, _⟩ := h.dn k cs af;exact ⟨vs, ty, h1, h2.plain (hp.1 k cs af), dx _ (.inl ⟨k, cs, af, rfl⟩)⟩
 ·obtain ⟨h1, h2, an⟩ := h.rows i r hi;exact ⟨h1.plain (hp.2 i r hi).1 (hp.2 i r hi).2, h2, fun g aq => ⟨dx g (.inr ⟨i, r, hi, aq⟩), (an g aq).2⟩⟩
theorem e3.abQ {U : Nat → Prop} {ad : Nat → Nat} {W : World} {m : Mem} {R : aI} (h : e3 U ad W m R) {b : Nat} (ab : en ad m R b) : ¬ U b := by
 rcases ab with ⟨k, cs, af, rfl⟩ | ⟨i, r, hi, aq⟩
 ·exact (h.dn k cs af).choose_spec.choose_spec.2.2
 ·exact ((h.rows i r hi).2.2 b aq).1
abbrev jb (p : Value) (S : e0) : bG := ⟨0, 0, p, 0, [.p S]⟩
def yj (P : Program) (f : FuncId) (args : List ah) (p : Value) (S : e0) (post : ah → e0 → Prop) : Prop := ∀ i, dk P f args ca (br i (jb p S)) fun v aG ay => ∃ dm, aG = ca ∧ ay = br i (jb p dm) ∧ post v dm
def EY (P : Program) (f : FuncId) (args : List ah) (post : Value → e0 → Prop) : Prop := ∀ i, dk P f args ca gj fun v aG ay => ∃ p S, aG = ca ∧ ay = br i (jb p S) ∧ v = aR p ∧ post p S
theorem Qy {U : Nat → Prop} {ad : Nat → Nat} {W : World} {k off : Nat} {v : Value} (h : v = nA (ad k) off) : da U ad W (.w (.one (.own k off))) v := by subst h; rfl
theorem kb.closed {U : Nat → Prop} {ad aY : Nat → Nat} {W : World} {args : List ah} {vs : List Value} (aj : args.all ah.aZ = true) (h : kb U ad W args vs) : kb U aY W args vs :=
 ⟨h.1, fun i x v aa hv => (h.2 i x v aa hv).map (fun b ab _ => ⟨ab, rfl⟩) fun j ae => absurd ae (ah.du (cB.1 aj x (c7 aa)) j)⟩
theorem Ds {ad : Nat → Nat} {m : Mem} {R : aI} {k : Nat} {b : Nat} (h : (jb (ea (ad k)) (la ad m R k)).own b) : en ad m R b := Pk h
theorem agG {P : Program} {f : FuncId} {args : List ah} {ad : Nat → Nat} {m : Mem} {R : aI} {k off : Nat} {Post : ah → Mem → aI → Prop} {Post2 : ah → Mem → aI → Prop} (af : ∃ cs, m k = some cs) (ek : args.all ah.aZ = true) (aj : dk P f (.w (.one (.own k off)) :: args) m R Post) (i : Nat)
  (hp : ∀ r m1 ba eG ot ia v, Post r m1 ba → eG k = ad k → e3 ot eG ia m1 ba → da ot eG ia r v → ∃ cD ec, Post2 cD ca ec ∧ cD.aZ = true ∧ da ot eG ia cD v ∧ e3 ot eG ia ca ec ∧ (∃ q, ec i = some q) ∧ ∀ b, en eG ca ec b → en eG m1 ba b) : dk P f (aR (nA (ad k) off) :: args) ca (br i (jb (ea (ad k)) (la ad m R k))) Post2 := by
 refine ⟨fun U ahh W vs cj cp cL => ?_⟩;have hi : br i (jb (ea (ad k)) (la ad m R k)) i = some (jb (ea (ad k)) (la ad m R k)) := by unfold br; exact cx _ _ _
 obtain ⟨c0, _, vf⟩ := cj.rows i _ hi;obtain ⟨aU, qJ⟩ := ab2 c0
 have gD : ∀ b, en ahh ca (br i (jb (ea (ad k)) (la ad m R k))) b ↔ en ad m R b := fun b => by
  constructor
  ·rintro (⟨j, cs, ae, _⟩ | ⟨j, q, ae, aq⟩)
   ·cases ae
   ·obtain ⟨rfl, rfl⟩ := fK ae; exact Ds aq
  ·exact fun h => .inr ⟨i, _, hi, (Pj aU qJ).2 h⟩
 have dx : ∀ b, en ad m R b → ¬ U b := fun b ab => (vf b ((Pj aU qJ).2 ab)).1;obtain ⟨hlen, hv⟩ := cL
 match vs, hlen with
 | v0 :: vs, hlen =>
  have oL : v0 = nA (ad k) off := (hv 0 _ v0 rfl rfl).1;have vk : kb U ad W args vs := kb.closed ek ⟨by simpa using hlen, fun j x v aa bR => hv (j + 1) x v aa bR⟩;refine (aj.call U ad W (v0 :: vs) (aU.more qJ dx) (fun x aa j ae => ?_) ⟨hlen, fun j x v aa bR => ?_⟩).mono ?_
  ·rcases fD.1 aa with rfl | aa
   ·obtain ⟨y, ai, ae⟩ := ae;simp [bz.cells] at ai;subst ai;cases ae;exact af
   ·exact absurd ae (ah.du (cB.1 ek x aa) j)
  ·match j with
   | 0 => cases aa; cases bR; exact Qy oL
   | j + 1 => exact vk.2 j x v aa bR
  ·rintro e bh ⟨v, r, m1, ba, eG, ot, rfl, jU, B8, pN, iV, bl, bJ, b3, b7, ab⟩;have jq : eG k = ad k := by obtain ⟨cs, h⟩ := af; exact (bl k cs h).1
   obtain ⟨cD, ec, q1, q2, bO, dj, mc, Io⟩ := hp r m1 ba eG ot bh v jU jq B8 pN;refine ⟨v, cD, ca, ec, eG, ot, rfl, q1, dj, bO, fun j ae => absurd ae (ah.du q2 j), fun k cs af => (by cases af), fun j q ae => ?_, fun b ab => ?_, fun b ab => ?_, ⟨ab.os, ab.tape, ab.output, ab.size, fun b ar => ab.block b ⟨ar.1, fun Gr => ar.2 ((gD b).2 Gr)⟩⟩⟩
   ·obtain ⟨rfl, rfl⟩ := fK ae;exact mc
   ·rcases b3 b ab with q | q | q
    ·exact .inl q
    ·exact .inr (.inl q)
    ·exact .inr (.inr ((gD b).2 q))
   ·rcases b7 b (Io b ab) with q | q
    ·exact .inl ((gD b).2 q)
    ·exact .inr q
theorem Pl {U : Nat → Prop} {ad aY : Nat → Nat} {W : World} {m m1 : Mem} {R ba : aI} {k : Nat} (h : e3 U ad W m R) (hm : ∀ k cs, m1 k = some cs → m k = some cs) (ap : bB ba R) (fJ : ∀ k cs x j, m1 k = some cs → x ∈ cs → x.owns j → ∃ au, m1 j = some au) (hp : nz m1 ba) :
  (jb (ea (ad k)) (la ad m1 ba k)).ok U aY W ∧ (∀ y ∈ (jb (ea (ad k)) (la ad m1 ba k)).aS, y.aZ = true) ∧ ∀ g, (jb (ea (ad k)) (la ad m1 ba k)).own g → ¬ U g ∧ ∀ j cs, ca j = some cs → aY j ≠ g :=
 ⟨ab3 ((h.sub hm ap fJ).none hp) hp, fun y ai => by simp at ai; subst ai; rfl, fun g aq => ⟨(h.sub hm ap fJ).abQ (Ds aq), fun j cs ae => (by cases ae)⟩⟩
theorem RL {P : Program} {f : FuncId} {args : List ah} {ad : Nat → Nat} {m : Mem} {R : aI} {k off : Nat} {Post : ah → Mem → aI → Prop} {post : ah → e0 → Prop} (af : ∃ cs, m k = some cs) (ek : args.all ah.aZ = true) (aj : dk P f (.w (.one (.own k off)) :: args) m R Post)
  (hp : ∀ v m1 ba, Post v m1 ba → v.aZ = true ∧ nz m1 ba ∧ ∀ eG, eG k = ad k → post v (la eG m1 ba k)) : yj P f (aR (nA (ad k) off) :: args) (ea (ad k)) (la ad m R k) post := by
 intro i;refine agG af ek aj i fun r m1 ba eG ot ia v jU jq cj pN => ?_;obtain ⟨c1, c2, ke⟩ := hp _ _ _ jU;have ab := Pl (aY := eG) (k := k) cj (fun _ _ h => h) (bB.refl _) cj.fJ c2;refine ⟨r, br i (jb (ea (ad k)) (la eG m1 ba k)), ⟨_, rfl, rfl, ke eG jq⟩, c1, pN, ⟨fun k cs af => (by cases af), fun k cs x j af => (by cases af), fun k k' cs au af => (by cases af), fun j q ae => ?_, fun j eS q bX ae jQ bU => ?_⟩, ⟨_, by unfold br; exact cx _ _ _⟩, ?_⟩
 ·obtain ⟨rfl, rfl⟩ := fK ae;rw [← jq]; exact ab
 ·obtain ⟨rfl, _⟩ := fK ae;obtain ⟨rfl, _⟩ := fK jQ;exact absurd rfl bU
 ·rintro b (⟨j, cs, ae, _⟩ | ⟨j, q, ae, aq⟩)
  ·cases ae
  ·obtain ⟨rfl, rfl⟩ := fK ae;rw [← jq] at aq;exact Ds aq
theorem agF {P : Program} {f : FuncId} {args : List ah} {Post : ah → Mem → aI → Prop} {post : Value → e0 → Prop} (aj : dk P f args ca gj Post)
  (hp : ∀ v m1 ba, Post v m1 ba → ∃ k, v = .w (.one (.own k 0)) ∧ nz m1 ba ∧ ∀ eG, post (ea (eG k)) (la eG m1 ba k)) : EY P f args post := by
 intro i;refine ⟨fun U ad W vs cj cp cL => (aj.call U ad W vs cj cp cL).mono ?_⟩;rintro e bh ⟨v, r, m1, ba, eG, ot, rfl, jU, B8, pN, iV, bl, bJ, b3, b7, ab⟩;obtain ⟨k, rfl, c2, ke⟩ := hp _ _ _ jU;have Xy := Pl (aY := eG) (k := k) B8 (fun _ _ h => h) (bB.refl _) B8.fJ c2;have hv : v = ea (eG k) := pN;refine ⟨v, aR (ea (eG k)), ca, br i (jb (ea (eG k)) (la eG m1 ba k)), eG, ot, rfl, ⟨_, _, rfl, rfl, rfl, ke eG⟩, ⟨fun k cs af => (by cases af), fun k cs x j af => (by cases af), fun k k' cs au af => (by cases af), fun j q ae => ?_, fun j eS q bX ae jQ bU => ?_⟩, ⟨hv, rfl⟩, fun j ae => absurd ae (iE _ j), fun k cs af => (by cases af), fun j q ae => (by cases ae), b3, fun b ab => ?_, ab⟩
 ·obtain ⟨rfl, rfl⟩ := fK ae;exact Xy
 ·obtain ⟨rfl, _⟩ := fK ae;obtain ⟨rfl, _⟩ := fK jQ;exact absurd rfl bU
 ·rcases ab with ⟨j, cs, ae, _⟩ | ⟨j, q, ae, aq⟩
  ·cases ae
  ·obtain ⟨rfl, rfl⟩ := fK ae;exact b7 b (Ds aq)
section
variable {P : Program} {R : aI} {s : aA} {ops : Array Oper} {dr : Option (List Nat)} {ty : Nat} {pos : String} {after : Array Edge} {guard : Option (Nat × Bool)} {K : aI → aA → Prop} {rest : List Oper}
theorem zm (i : Nat) {dst : Option Nat} {f : FuncId} {g : Operand} {aL : Array TypeId} {l : List Operand} {args : List ah} {p : Value} {S : e0} {post : ah → e0 → Prop} [E : Enters P f] (hw : want ops ⟨dst, .call ⟨.value g, l.toArray, aL⟩, ty, pos, after, guard⟩ s = some true) (hm : dW dr ⟨dst, .call ⟨.value g, l.toArray, aL⟩, ty, pos, after, guard⟩ = true)
  (aq : s.look g = some (aR (.func (.func f) #[] #[]))) (aJ : l.map s.look = args.map some) (hp : yj P f args p S post) (hi : R i = some (jb p S)) (ek : args.all ah.aZ = true) (hd : kT dst s.n = true)
  (h : ∀ v dm, post v dm → cQ P ops dr K rest (bK R i (jb p dm)) (s.put dst v)) : cQ P ops dr K (⟨dst, .call ⟨.value g, l.toArray, aL⟩, ty, pos, after, guard⟩ :: rest) R s := by
 refine vl hw hm aq aJ (hp i) (fun x aa j ae => absurd ae (ah.du (cB.1 ek x aa) j)) (fun k' au aO => by cases aO) (fun fl aX aO => ?_) (fun k' au x j aO aa ae => by cases aO) hd ?_
 ·obtain ⟨rfl, rfl⟩ := fK aO; exact hi
 ·rintro v aG ay ⟨dm, rfl, rfl, al⟩;refine ⟨fun k' c aO => (by cases aO), ?_⟩;rw [show bV (br i (jb p dm)) R = bK R i (jb p dm) from vI R i _, tW];exact h v dm al
theorem Ni (i : Nat) {dst : Option Nat} {f : FuncId} {g : Operand} {aL : Array TypeId} {l : List Operand} {args : List ah} {post : Value → e0 → Prop} [E : Enters P f] (hw : want ops ⟨dst, .call ⟨.value g, l.toArray, aL⟩, ty, pos, after, guard⟩ s = some true) (hm : dW dr ⟨dst, .call ⟨.value g, l.toArray, aL⟩, ty, pos, after, guard⟩ = true)
  (aq : s.look g = some (aR (.func (.func f) #[] #[]))) (aJ : l.map s.look = args.map some) (hp : EY P f args post) (ek : args.all ah.aZ = true) (hd : kT dst s.n = true)
  (h : ∀ p S, post p S → cQ P ops dr K rest (bK R i (jb p S)) (s.put dst (aR p))) : cQ P ops dr K (⟨dst, .call ⟨.value g, l.toArray, aL⟩, ty, pos, after, guard⟩ :: rest) R s := by
 refine vl hw hm aq aJ (hp i) (fun x aa j ae => absurd ae (ah.du (cB.1 ek x aa) j)) (fun k' au aO => by cases aO) (fun fl aX aO => by cases aO) (fun k' au x j aO aa ae => by cases aO) hd ?_;rintro v aG ay ⟨p, S, rfl, rfl, rfl, al⟩;refine ⟨fun k' c aO => (by cases aO), ?_⟩;rw [show bV (br i (jb p S)) R = bK R i (jb p S) from vI R i _, tW];exact h p S al
end
section
variable {P : Program} {s : aA} {ops : Array Oper} {K : aA → Prop} {rest : List Oper} {ty : Nat} {pos : String} {after : Array Edge} {guard : Option (Nat × Bool)} {d : Nat}
theorem Uw {x : Operand} {b off : Nat} (hw : want ops ⟨some d, .nilCheck x, ty, pos, after, guard⟩ s = some true) (aa : s.look x = some (aR (nA b off))) (hd : Nat.blt d s.n = true) (h : bb P ops K rest (s.put (some d) (aR (nA b off)))) : bb P ops K (⟨some d, .nilCheck x, ty, pos, after, guard⟩ :: rest) s := by
 refine fN hw ⟨fun _ _ h => (by cases h), fun y ai => ?_, fun U ad W env he => ?_, fun j ae => absurd ae (iE _ j)⟩ hd h
 ·simp [Op.operands] at ai;subst ai;exact ⟨_, aa⟩
 ·have hv : env x = nA b off := (he x (by simp [Op.operands]) _ aa).1;exact ⟨_, by simp only [execOp, hv]; rfl, rfl, rfl⟩
theorem Ua {x : Operand} {p9 i b off ig : Nat} [F : mV P p9 i ig] (hw : want ops ⟨some d, .fieldAddr p9 x i, ty, pos, after, guard⟩ s = some true) (aa : s.look x = some (aR (nA b off))) (hd : Nat.blt d s.n = true) (h : bb P ops K rest (s.put (some d) (aR (nA b (off + ig))))) : bb P ops K (⟨some d, .fieldAddr p9 x i, ty, pos, after, guard⟩ :: rest) s := by
 refine fN (av := aR (nA b (off + ig))) hw ⟨fun _ _ h => (by cases h), fun y ai => ?_, fun U ad W env he => ?_, fun j ae => absurd ae (iE _ j)⟩ hd h
 ·simp [Op.operands] at ai;subst ai;exact ⟨_, aa⟩
 ·have hp : env x = .pointer (some ⟨b, off, none⟩) := (he x (by simp [Op.operands]) _ aa).1;have hF := F.h;unfold tj at hF
  split at hF
  ·rename_i bi hu;cases ar : bi[i]? with
   | none => rw [ar] at hF; cases hF
   | some f =>
    rw [ar] at hF;simp only [ks] at hF;cases hi : P.info? f.type with
    | none => rw [hi] at hF; cases hF
    | some t =>
     rw [hi] at hF;simp only [ks] at hF
     split at hF
     ·cases hF
     ·rename_i bU;cases hF;refine ⟨.pointer (some ⟨b, off + f.offset, none⟩), ?_, rfl, rfl⟩;have kC : (⟨b, off, none⟩ : Addr).add f.offset = ⟨b, off + f.offset, none⟩ := by unfold Addr.add; split <;> simp_all
      simp only [execOp, Instr.fieldAt, hp, Instr.sureAddr, Sem.run_bind, Sem.run_pure, Result.andThen_ok, run_underlying hu, ar, fieldPlace, hB hi, if_neg bU, kC]
  ·cases hF
theorem afw (n : Nat) {t e : TypeId} (hu : P.underlying t = some (.pointer e)) (a : Addr) (W : World) : (Op.equalIn (n + 1) t (.pointer (some a)) (.pointer none)).run P W = .ok false W := by
 simp [Op.equalIn, run_underlying hu]
theorem afx {t e : TypeId} (hu : P.underlying t = some (.pointer e)) (a : Addr) (W : World) : (Op.equal t (.pointer (some a)) (.pointer none)).run P W = .ok false W := afw 9999 hu a W
theorem afv {t e : TypeId} (hu : P.underlying t = some (.pointer e)) (a : Addr) (W : World) : (binOp .eql t (.pointer (some a)) (.pointer none)).run P W = .ok (.bool false) W := by
 simp only [binOp];simp [afx hu]
theorem WZ {op : BinOp} {t : TypeId} {x y : Operand} {a : Option Addr} {v : Value} : eqGuard op t x y (.pointer a) v = pure () := by cases op <;> rfl
def NJ (P : Program) (t : TypeId) : Bool := match P.underlying t with
 | some (.pointer _) => true
 | _ => false
end
section
variable {P : Program} {s : aA} {ops : Array Oper} {K : aA → Prop} {rest : List Oper} {ty : Nat} {pos : String} {after : Array Edge} {guard : Option (Nat × Bool)} {d : Nat}
end
theorem e0.same {A B : e0} (h1 : A.holds = B.holds) (h2 : A.kX = B.kX) : A = B := by
 cases A; cases B; cases h1; cases h2; rfl
theorem AC.QX {bF : Nat → Nat} (x : AC) : (x.a6 bF).vK = x.vK := by cases x <;> rfl
theorem aec {bF b4 ix : Nat → Nat} (fA : ∀ j, bF (bF j) = j) (fH : ∀ j, b4 (ix j) = j) {m : Mem} {R : aI} : nz (m.a6 bF) (R.a6 b4) ↔ nz m R := by
 constructor
 ·rintro ⟨h1, h2⟩;refine ⟨fun k cs af => ?_, fun i r hi => h2 (ix i) r (by unfold aI.a6; rw [fH]; exact hi)⟩;have := h1 _ _ (Mem.q7 fA af);rw [List.all_map] at this;rw [cB] at this ⊢;exact fun x aa => (AC.QX x).symm.trans (this x aa)
 ·rintro ⟨h1, h2⟩;refine ⟨fun k cs af => ?_, fun i r hi => h2 (b4 i) r hi⟩;obtain ⟨ds, hd, rfl⟩ := Mem.q8 af;have := h1 _ _ hd;rw [List.all_map];rw [cB] at this ⊢;exact fun x aa => (AC.QX x).trans (this x aa)
theorem agH {bF b4 ix : Nat → Nat} (fA : ∀ j, bF (bF j) = j) (fH : ∀ j, b4 (ix j) = j) (vp : ∀ j, ix (b4 j) = j) {ad : Nat → Nat} {m : Mem} {R : aI} {k : Nat} : la ad (m.a6 bF) (R.a6 b4) (bF k) = la (fun j => ad (bF j)) m R k := by
 refine e0.same ?_ ?_
 ·funext w v;show (v = ea (ad (bF k)) ∧ e3 tM ad w (m.a6 bF) (R.a6 b4) ∧ nz (m.a6 bF) (R.a6 b4)) = (v = ea (ad (bF k)) ∧ e3 tM (fun j => ad (bF j)) w m R ∧ nz m R);rw [propext (aec fA fH), propext (e3.a6 fA fH vp)]
 ·funext w v b;exact propext (en.a6 fA fH)
theorem eP {P : Program} {fn : Func} {l : List ResultVar} {xs : List bz} {R R0 ba : aI} {s : aA} {cs au : List AC} {Post : ah → Mem → aI → Prop} (ap : fn.results = l.toArray) (h : l.map (iK P s) = xs.map some) (af : s.mem 1000 = some au) (aw : bB ba R) (aj : au.all AC.aZ = true) (aa : (packed xs).aZ = true) (aD : ∀ i r, R0 i = some r → ∃ aX, ba i = some aX)
  (hp : Post (packed xs) (cN 1000 au) ba) : tv P fn (cN 1000 cs) R0 Post R s := by
 refine ⟨xs, packed xs, cN 1000 au, ba, by rw [ap]; exact h, .refl _, hp, fun k c h => ?_, aw, fun j ae => absurd ae (ah.du aa j), fun k c x j h aa ae => ?_, fun k c h => ?_, aD⟩
 ·obtain ⟨rfl, rfl⟩ := hK h; exact af
 ·obtain ⟨rfl, rfl⟩ := hK h; exact absurd ae (AC.du (cB.1 aj x aa) j)
 ·obtain ⟨rfl, rfl⟩ := hK h; exact ⟨au, by unfold cN; exact cx _ _ _⟩
theorem Cm (k : Nat) {P : Program} {fn : Func} {l : List ResultVar} {xs : List bz} {R ba : aI} {s : aA} {au : List AC} {Post : ah → Mem → aI → Prop} (ap : fn.results = l.toArray) (h : l.map (iK P s) = xs.map some) (af : s.mem k = some au) (aw : bB ba R) (aj : au.all AC.aZ = true) (aa : (packed xs).xy k = true)
  (hp : Post (packed xs) (cN k au) ba) : tv P fn ca gj Post R s := by
 refine ⟨xs, packed xs, cN k au, ba, by rw [ap]; exact h, .refl _, hp, fun k c h => ?_, aw, fun j ae => ?_, fun k c x j h zt ae => ?_, fun k c h => (by cases h), fun i r h => (by cases h)⟩
 ·obtain ⟨rfl, rfl⟩ := hK h; exact af
 ·rw [ah.acn aa ae]; exact ⟨au, by unfold cN; exact cx _ _ _⟩
 ·obtain ⟨rfl, rfl⟩ := hK h; exact absurd ae (AC.du (cB.1 aj x zt) j)
section
variable {P : Program} {R : aI} {s : aA} {ops : Array Oper} {dr : Option (List Nat)} {ty : Nat} {pos : String} {after : Array Edge} {guard : Option (Nat × Bool)} {K : aI → aA → Prop} {rest : List Oper}
end
def pe (P : Program) (f : FuncId) (args : List ah) (post : ah → bG → Prop) : Prop :=
 ∀ i, dk P f args ca gj fun v aG ay => ∃ q, aG = ca ∧ ay = br i q ∧ 0 < q.sz ∧ post v q
theorem E2 {P : Program} {f : FuncId} {args : List ah} {post : ah → bG → Prop} (aJ : args.all ah.aZ = true) (hp : ∀ v q, post v q → v.aZ = true)
  (h : dk P f args ca gj fun v aG ay => ∃ q, aG = ca ∧ ay = br 0 q ∧ 0 < q.sz ∧ post v q) : pe P f args post := by
 intro i;have h1 := h.a6 (bF := fun j => j) (b4 := swp 0 i) (ix := swp 0 i) (fun _ => rfl) (mS _ _) (mS _ _);rw [QT aJ, show Mem.a6 (fun j => j) ca = ca from rfl, show aI.a6 (swp 0 i) gj = gj from rfl] at h1;refine ⟨fun U ad W vs cj cp cL => (h1.call U ad W vs cj cp cL).mono ?_⟩;rintro e bh ⟨v1, b6, aG, ay, aY, cF, di, ⟨cD, m2, ec, ⟨q, rfl, rfl, aP, al⟩, rfl, rfl, rfl⟩, me⟩;rw [show Mem.a6 (fun j => j) ca = ca from rfl, Ai, uh (hp _ _ al)] at me;exact ⟨v1, cD, ca, br i q, aY, cF, di, ⟨q, rfl, rfl, aP, al⟩, me⟩
theorem y1 {P : Program} {fn : Func} {l : List ResultVar} {xs : List bz} {R : aI} {s : aA} {q : bG} {post : ah → bG → Prop} (ap : fn.results = l.toArray) (h : l.map (iK P s) = xs.map some) (hi : R 0 = some q) (aa : (packed xs).aZ = true) (ze : 0 < q.sz)
  (hp : post (packed xs) q) : tv P fn ca gj (fun v aG ay => ∃ q, aG = ca ∧ ay = br 0 q ∧ 0 < q.sz ∧ post v q) R s := by
 refine ⟨xs, packed xs, ca, br 0 q, by rw [ap]; exact h, .refl _, ⟨q, rfl, rfl, ze, hp⟩, fun k c h => (by cases h), fun i r h => ?_, fun j ae => absurd ae (ah.du aa j), fun k c x j h => (by cases h), fun k c h => (by cases h), fun i r h => (by cases h)⟩;obtain ⟨rfl, rfl⟩ := fK h; exact hi
section
variable {P : Program} {R : aI} {s : aA} {ops : Array Oper} {dr : Option (List Nat)} {ty : Nat} {pos : String} {after : Array Edge} {guard : Option (Nat × Bool)} {K : aI → aA → Prop} {rest : List Oper}
end
section
variable {P : Program} {U li : Nat → Prop} {ad : Nat → Nat} {w : World}
theorem bG.ok.RK {r : bG} (h : r.ok U ad w) (hs : 0 < r.sz) (AO : List AC) (ai : ∀ xs, bL U ad w r.aS xs → bL li ad w AO xs) (aj : ∀ y ∈ AO, y.aZ = true) (dx : ∀ b, r.own b → li b) : gh li ad w (.p (cc r.sz r.n AO)) r.v := by
 obtain ⟨xs, az, Gz⟩ := h.row hs;have ak := ai xs Gz;have mC := ak.1;obtain ⟨jS, ax | ⟨g, cap, cur, iC, nh, qF, ep, iA, dT, lY⟩⟩ := id az
 ·obtain ⟨aF, aM⟩ := ax;have : AO = [] := kt (by rw [mC, jS, aM]; simp);rw [aF];exact ⟨⟨none, 0, by rw [aM], by omega, by rw [this, aM]; simp, fun h => absurd h (by omega)⟩, fun b ⟨c', a', q, ax, ab⟩ => by cases q⟩
 ·have tr := az.cells (g := g) (by rw [iC]; rfl);have Yv : r.own g := .inl (by rw [iC]; rfl);rw [iC];have qA : kM w ⟨g, 0, none⟩ AO xs := ⟨(jv.1 qF).1, ak.wG aj fun b _ _ => ⟨trivial, rfl⟩, tr, aj⟩;refine ⟨⟨some ⟨g, 0, none⟩, cap, rfl, ep, by rw [mC]; exact jS, fun ax => ⟨⟨g, 0, none⟩, xs, rfl, qA⟩⟩, ?_⟩;rintro b ⟨c', a', q, ax, ar⟩;cases q;rcases ar with rfl | ⟨j, y, v, ai, hv, fZ⟩
  ·exact dx g Yv
  ·have bg : j < xs.length := by rw [← mC]; exact (bM.1 ai).1
   have h2 := tr j _ (bN bg);rw [hv] at h2;cases h2;have an := ak.2 j y _ ai (bN bg);cases y with
   | c u => cases fZ
   | own k o => cases fZ
   | p S => exact an.2 b fZ
def A1 (r : ah) : Prop := ∀ (U cF : Nat → Prop) (ad aY : Nat → Nat) (W bh : World) v, da U ad W r v → da cF aY bh r v
def uu (aS : List AC) : Prop := ∀ (U cF : Nat → Prop) (ad aY : Nat → Nat) (W bh : World) xs, bL U ad W aS xs → bL cF aY bh aS xs
theorem uu.of {aS : List AC} (h : ∀ y ∈ aS, ∃ v, y = .c v) : uu aS := fun U cF ad aY W bh xs aa => ⟨aa.1, fun i y v ai hv => by
 have h1 := aa.2 i y v ai hv;obtain ⟨u, rfl⟩ := h y (c7 ai);exact h1⟩
theorem A1.one {v : Value} : A1 (aR v) := fun U cF ad aY W bh u h => h
theorem XD {f : FuncId} {args rF : List ah} {R0 : aI} {Post : ah → Mem → aI → Prop} (hp : dk P f rF ca gj Post) (aj : rF.all ah.aZ = true)
  (hv : ∀ U ad W vs, e3 U ad W ca R0 → kb U ad W args vs → kb (fun b => U b ∨ en ad ca R0 b) ad W rF vs)
  (jU : ∀ r aG ba, Post r aG ba → aG = ca ∧ A1 r ∧ r.aZ = true ∧ ∀ i q, ba i = some q → 0 < q.sz ∧ uu q.aS) :
  dk P f args ca R0 fun r aG ay => ∃ ba, Post r ca ba ∧ aG = ca ∧ ay = bV ba R0 := by
 refine ⟨fun U ad W vs cj cp cL => ?_⟩;have Xc : e3 (fun b => U b ∨ en ad ca R0 b) ad W ca gj := ⟨fun k cs af => (by cases af), fun k cs x j af => (by cases af), fun k k' cs au af => (by cases af), fun i q hi => (by cases hi), fun i j q bX hi => (by cases hi)⟩;have bg : ∀ i q g, R0 i = some q → q.own g → g < W.heap.size := fun i q g hi aq => (cj.rows i q hi).1.lt aq;refine (hp.call _ ad W vs Xc (fun x aa j ae => absurd ae (ah.du (cB.1 aj x aa) j)) (hv U ad W vs cj cL)).mono ?_;rintro e bh ⟨v, r, aG, ba, aY, cF, rfl, h1, h2, an, aE, cY, fh, jM, pA, iT⟩;obtain ⟨rfl, ar, nY, YO⟩ := jU r aG ba h1
 have zn : ∀ b, b < W.heap.size → bh.heap[b]? = W.heap[b]? := fun b ab => iT.block b ⟨ab, by
  rintro (⟨k, cs, af, _⟩ | ⟨i, q, hi, _⟩)
  ·cases af
  ·cases hi⟩
 have pJ : ∀ i q g, ba i = some q → q.own g → W.heap.size ≤ g := fun i q g hi aq => (pA g (.inr ⟨i, q, hi, aq⟩)).elim (fun h => by
  rcases h with ⟨k, cs, af, _⟩ | ⟨i, q, hi, _⟩
  ·cases af
  ·cases hi) id
 refine ⟨v, r, ca, bV ba R0, aY, fun b => U b ∧ b < W.heap.size, rfl, ⟨ba, h1, rfl, rfl⟩, ⟨fun k cs af => (by cases af), fun k cs x j af => (by cases af), fun k k' cs au af => (by cases af), fun i q hi => ?_, fun i j q bX hi ae gG g aq eo => ?_⟩, ar _ _ _ _ _ _ v an, fun j ae => absurd ae (ah.du nY j), fun k cs af => (by cases af), fun i q hi => ?_, fun b ab => .inl ab.1, fun b ab => ?_, ⟨iT.os, iT.tape, iT.output, iT.size, fun b ab => zn b ab.1⟩⟩
 ·rcases jZ hi with hi | ⟨_, hi⟩
  ·obtain ⟨q1, q2, bO⟩ := h2.rows i q hi;obtain ⟨eW, z2⟩ := YO i q hi;obtain ⟨xs, az, ak⟩ := q1.row eW;exact ⟨.inl ⟨eW, xs, az, z2 _ _ _ _ _ _ xs ak⟩, q2, fun g aq => ⟨fun hu => by have := pJ i q g hi aq; have := hu.2; omega, fun k cs af => by cases af⟩⟩
  ·obtain ⟨q1, q2, bO⟩ := cj.rows i q hi;exact ⟨q1.kept q2 (fun g aq => zn g (bg i q g hi aq)) iT.size fun b ab ak => ⟨⟨ab, ak⟩, zn b ak⟩, q2, fun g aq => ⟨fun hu => (bO g aq).1 hu.1, fun k cs af => by cases af⟩⟩
 ·rcases jZ hi with hi | ⟨_, hi⟩ <;> rcases jZ ae with ae | ⟨_, ae⟩
  ·exact h2.apart i j q bX hi ae gG g aq eo
  ·have := pJ i q g hi aq; have := bg j bX g ae eo; omega
  ·have := pJ j bX g ae eo; have := bg i q g hi aq; omega
  ·exact cj.apart i j q bX hi ae gG g aq eo
 ·cases al : ba i with
  | some x => exact ⟨x, hL al⟩
  | none => exact ⟨q, by rw [hM al]; exact hi⟩
 ·rcases ab with ⟨k, cs, af, _⟩ | ⟨i, q, hi, aq⟩
  ·cases af
  ·rcases jZ hi with hi | ⟨_, hi⟩
   ·exact .inr (pJ i q b hi aq)
   ·exact .inl (.inr ⟨i, q, hi, aq⟩)
end
section
variable {P : Program} {R : aI} {s : aA} {ops : Array Oper} {dr : Option (List Nat)} {ty : Nat} {pos : String} {after : Array Edge} {guard : Option (Nat × Bool)} {K : aI → aA → Prop} {rest : List Oper}
theorem Nc {dst : Option Nat} {f : FuncId} {g : Operand} {aL : Array TypeId} {l : List Operand} {args : List ah} {R0 : aI} {Post : ah → Mem → aI → Prop} [E : Enters P f] (hw : want ops ⟨dst, .call ⟨.value g, l.toArray, aL⟩, ty, pos, after, guard⟩ s = some true) (hm : dW dr ⟨dst, .call ⟨.value g, l.toArray, aL⟩, ty, pos, after, guard⟩ = true)
  (aq : s.look g = some (aR (.func (.func f) #[] #[]))) (aJ : l.map s.look = args.map some) (hp : dk P f args ca R0 Post) (ap : bB R0 R) (ek : args.all ah.aZ = true) (hd : kT dst s.n = true)
  (h : ∀ r aG ay, Post r aG ay → aG = ca ∧ cQ P ops dr K rest (bV ay R) (s.put dst r)) : cQ P ops dr K (⟨dst, .call ⟨.value g, l.toArray, aL⟩, ty, pos, after, guard⟩ :: rest) R s := by
 refine vl hw hm aq aJ hp (fun x aa j ae => absurd ae (ah.du (cB.1 ek x aa) j)) (fun k' au aO => by cases aO) ap (fun k' au x j aO aa ae => by cases aO) hd ?_;rintro r aG ay al;obtain ⟨rfl, aO⟩ := h r aG ay al;refine ⟨fun k' au aO => (by cases aO), ?_⟩;have cX : s.over ca = s := rfl;rw [cX]; exact aO
end
end Go.Proofs.YtbcecodakfejaaaGreat
