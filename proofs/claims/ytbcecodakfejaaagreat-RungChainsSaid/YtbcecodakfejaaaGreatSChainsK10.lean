/-
  My own texts, without what this claim does not need. My own text.
-/
import Derived.Laws.BytesArg
import Derived.Test.YtbcecodakfejaaaGreatSChainsK9
set_option maxRecDepth 100000
set_option maxHeartbeats 64000000
set_option linter.unusedVariables false
set_option linter.unusedSimpArgs false
set_option linter.unusedSectionVars false
open Go.Proofs.Tryz renaming prog → ag
namespace Go.Proofs.YtbcecodakfejaaaGreat
structure eB where
 fn : Int
 fd : Int
 dw : Int
 de : Int
 no : Bool
def fB (n d : Int) : Rat := aO n / aO d
theorem lR {a b c d : Int} (ab : 0 < b) (hd : 0 < d) : fB a b ≤ fB c d ↔ a * d ≤ c * b := by
 have fA := nD ab;have d0 := nD hd;have aF : fB a b * aO b = aO a := sv ab;have aP : fB c d * aO d = aO c := sv hd
 have k : a * d ≤ c * b ↔ aO a * aO d ≤ aO c * aO b := by
  rw [← mM];simp [aO, lC]
 rw [k, ← aF, ← aP];generalize fB a b = x at *;generalize fB c d = y at *
 constructor
 ·intro h;have := iF (show 0 ≤ y - x by grind) (iF (mL fA) (mL d0));grind
 ·intro h;refine Rat.not_lt.1 fun bb => ?_;have := Rat.mul_pos (show 0 < x - y by grind) (Rat.mul_pos fA d0);grind
theorem MI (n : Int) : fB n 1 = aO n := by
 have := sv (n := n) (show (0 : Int) < 1 by decide);have e : aO 1 = 1 := by simp [aO]
 rw [e] at this;unfold fB;rw [e];grind
theorem BP : fB 0 1 = 0 := by rw [MI]; simp [aO]
theorem BQ : fB 1 1 = 1 := by rw [MI]; simp [aO]
def eB.ok (p : eB) : Prop := 0 < p.fd ∧ 0 < p.de
def eB.In (p : eB) (t : Rat) : Prop := p.no = false ∧ fB p.fn p.fd ≤ t ∧ t ≤ fB p.dw p.de
def pZ : eB := ⟨0, 1, 1, 1, false⟩
def iw (a b low high : Int) : Int := if 2 * (b - a) < 0 then 2 * a - high else low - 2 * a
def iI (a b low high : Int) : Int := if 2 * (b - a) < 0 then 2 * a - low else high - 2 * a
def ff (a b : Int) : Int := if 2 * (b - a) < 0 then -(2 * (b - a)) else 2 * (b - a)
def kB (p : eB) (a b low high : Int) : eB :=
 if a = b then ⟨p.fn, p.fd, p.dw, p.de, p.no || decide (2 * a < low) || decide (high < 2 * a)⟩
 else ⟨if p.fn * ff a b < iw a b low high * p.fd then iw a b low high else p.fn, if p.fn * ff a b < iw a b low high * p.fd then ff a b else p.fd,
  if iI a b low high * p.de < p.dw * ff a b then iI a b low high else p.dw, if iI a b low high * p.de < p.dw * ff a b then ff a b else p.de, p.no⟩
theorem FB {a b : Int} (h : a ≠ b) : 0 < ff a b := by unfold ff; split <;> omega
theorem CX {p : eB} (h : p.ok) (a b low high : Int) : (kB p a b low high).ok := by
 unfold kB
 split
 ·exact h
 ·rename_i gb;have := FB gb;unfold eB.ok at *;refine ⟨?_, ?_⟩ <;> (simp only; split <;> omega)
theorem OJ {p : eB} (hp : p.ok) (a b low high : Int) (t : Rat) : (kB p a b low high).In t ↔ p.In t ∧ aO low ≤ 2 * aO a + t * (2 * (aO b - aO a)) ∧ 2 * aO a + t * (2 * (aO b - aO a)) ≤ aO high := by
 unfold kB
 by_cases gb : a = b
 ·subst gb;rw [if_pos rfl];unfold eB.In
  have e : 2 * aO a + t * (2 * (aO a - aO a)) = aO (2 * a) := by
   have : aO (2 * a) = 2 * aO a := by simp [aO, lC]
   rw [this]; grind
  rw [e, mM, mM];simp only [Bool.or_eq_false_iff, iE, Int.not_lt]
  constructor
  ·rintro ⟨⟨⟨h1, h2⟩, ao⟩, aD⟩; exact ⟨⟨h1, aD⟩, h2, ao⟩
  ·rintro ⟨⟨h1, aD⟩, h2, ao⟩; exact ⟨⟨⟨h1, h2⟩, ao⟩, aD⟩
 ·rw [if_neg gb];have hd := FB gb;have d0 := nD hd
  have key : (fB (iw a b low high) (ff a b) ≤ t ∧ t ≤ fB (iI a b low high) (ff a b)) ↔ (aO low ≤ 2 * aO a + t * (2 * (aO b - aO a)) ∧ 2 * aO a + t * (2 * (aO b - aO a)) ≤ aO high) := by
   have aF : fB (iw a b low high) (ff a b) * aO (ff a b) = aO (iw a b low high) := sv hd;have aP : fB (iI a b low high) (ff a b) * aO (ff a b) = aO (iI a b low high) := sv hd
   have m1 : fB (iw a b low high) (ff a b) ≤ t ↔ aO (iw a b low high) ≤ t * aO (ff a b) := by
    rw [← aF];generalize fB (iw a b low high) (ff a b) = x
    constructor
    ·intro h;have := iF (show 0 ≤ t - x by grind) (mL d0);grind
    ·intro h;refine Rat.not_lt.1 fun bb => ?_;have := Rat.mul_pos (show 0 < x - t by grind) d0;grind
   have m2 : t ≤ fB (iI a b low high) (ff a b) ↔ t * aO (ff a b) ≤ aO (iI a b low high) := by
    rw [← aP];generalize fB (iI a b low high) (ff a b) = x
    constructor
    ·intro h;have := iF (show 0 ≤ x - t by grind) (mL d0);grind
    ·intro h;refine Rat.not_lt.1 fun bb => ?_;have := Rat.mul_pos (show 0 < t - x by grind) d0;grind
   rw [m1, m2];unfold iw iI ff
   by_cases ax : 2 * (b - a) < 0
   ·rw [if_pos ax, if_pos ax, if_pos ax];simp only [aO, p7, lC, Rat.intCast_neg]
    constructor
    ·rintro ⟨h1, h2⟩; constructor <;> grind
    ·rintro ⟨h1, h2⟩; constructor <;> grind
   ·rw [if_neg ax, if_neg ax, if_neg ax];simp only [aO, p7, lC, Rat.intCast_neg]
    constructor
    ·rintro ⟨h1, h2⟩; constructor <;> grind
    ·rintro ⟨h1, h2⟩; constructor <;> grind
  rw [← key];generalize iw a b low high = F at *;generalize iI a b low high = T at *;generalize ff a b = dn at *;clear key;have c1 := lR (a := F) (b := dn) (c := p.fn) (d := p.fd) hd hp.1;have c2 := lR (a := p.fn) (b := p.fd) (c := F) (d := dn) hp.1 hd;have hf := lR (a := T) (b := dn) (c := p.dw) (d := p.de) hd hp.2;have nS := lR (a := p.dw) (b := p.de) (c := T) (d := dn) hp.2 hd;unfold eB.In;simp only
  have s1 : fB (if p.fn * dn < F * p.fd then F else p.fn) (if p.fn * dn < F * p.fd then dn else p.fd) ≤ t ↔ fB F dn ≤ t ∧ fB p.fn p.fd ≤ t := by
   by_cases h : p.fn * dn < F * p.fd
   ·rw [if_pos h, if_pos h];refine ⟨fun g => ⟨g, ?_⟩, fun g => g.1⟩;exact o4 (c2.2 (by omega)) g
   ·rw [if_neg h, if_neg h];refine ⟨fun g => ⟨?_, g⟩, fun g => g.2⟩;exact o4 (c1.2 (by omega)) g
  have s2 : t ≤ fB (if T * p.de < p.dw * dn then T else p.dw) (if T * p.de < p.dw * dn then dn else p.de) ↔ t ≤ fB T dn ∧ t ≤ fB p.dw p.de := by
   by_cases h : T * p.de < p.dw * dn
   ·rw [if_pos h, if_pos h];refine ⟨fun g => ⟨g, ?_⟩, fun g => g.1⟩;exact o4 g (hf.2 (by omega))
   ·rw [if_neg h, if_neg h];refine ⟨fun g => ⟨?_, g⟩, fun g => g.2⟩;exact o4 g (nS.2 (by omega))
  rw [s1, s2]
  constructor
  ·rintro ⟨h1, ⟨h2, ao⟩, aD, cm⟩; exact ⟨⟨h1, ao, cm⟩, h2, aD⟩
  ·rintro ⟨⟨h1, ao, cm⟩, h2, aD⟩; exact ⟨h1, ⟨h2, ao⟩, aD, cm⟩
def dS (a1 a2 b1 b2 S far : Int) (v : aj) : eB := kB (kB pZ a1 b1 (2 * S * v.1 - far) (2 * S * v.1 + far)) a2 b2 (2 * S * v.2 - far) (2 * S * v.2 + far)
theorem rc (a1 a2 b1 b2 S far : Int) (v : aj) : (dS a1 a2 b1 b2 S far v).ok := CX (CX ⟨by decide, by decide⟩ _ _ _ _) _ _ _ _
theorem zT {a1 a2 b1 b2 S far : Int} {v : aj} {t : Rat} : (dS a1 a2 b1 b2 S far v).In t ↔ (0 ≤ t ∧ t ≤ 1) ∧ kD a1 a2 b1 b2 S (aO far) t v := by
 unfold dS;rw [OJ (CX ⟨by decide, by decide⟩ _ _ _ _), OJ ⟨by decide, by decide⟩]
 have cq : pZ.In t ↔ 0 ≤ t ∧ t ≤ 1 := by
  unfold eB.In pZ;simp only [BP, BQ];exact ⟨fun h => h.2, fun h => ⟨trivial, h⟩⟩
 rw [cq];unfold kD n7;have f1 : aO (2 * S * v.1 - far) = 2 * (aO S * aO v.1) - aO far := by simp [aO, p7, lC]; grind
 have f2 : aO (2 * S * v.1 + far) = 2 * (aO S * aO v.1) + aO far := by simp [aO, p6, lC]; grind
 have f3 : aO (2 * S * v.2 - far) = 2 * (aO S * aO v.2) - aO far := by simp [aO, p7, lC]; grind
 have f4 : aO (2 * S * v.2 + far) = 2 * (aO S * aO v.2) + aO far := by simp [aO, p6, lC]; grind
 rw [f1, f2, f3, f4]
 constructor
 ·rintro ⟨⟨az, h1, h2⟩, ao, aD⟩;exact ⟨az, ⟨by grind, by grind⟩, by grind, by grind⟩
 ·rintro ⟨az, ⟨h1, h2⟩, ao, aD⟩;exact ⟨⟨az, by grind, by grind⟩, by grind, by grind⟩
def eB.lay (p : eB) : Prop := 0 ≤ p.fn ∧ p.dw ≤ p.de
theorem OK {p : eB} (hp : p.ok) (h : p.lay) (a b low high : Int) : (kB p a b low high).lay := by
 unfold kB
 by_cases gb : a = b
 ·rw [if_pos gb]; exact h
 ·rw [if_neg gb];have hd := FB gb;generalize iw a b low high = F;generalize iI a b low high = T;generalize ff a b = dn at *;obtain ⟨h1, h2⟩ := h;obtain ⟨g1, g2⟩ := hp;unfold eB.lay;simp only
  constructor
  ·split
   ·rename_i bb;have : 0 ≤ p.fn * dn := fY h1 (by omega);have : 0 < F * p.fd := by omega
    exact lB (Int.pos_of_mul_pos_left this g1)
   ·exact h1
  ·split
   ·rename_i bb;have := nA h2 (show 0 ≤ dn by omega);have ao : T * p.de < dn * p.de := by rw [iq dn]; omega
    exact lB (Int.lt_of_mul_lt_mul_right ao (by omega))
   ·exact h2
theorem IA (a1 a2 b1 b2 S far : Int) (v : aj) : (dS a1 a2 b1 b2 S far v).lay := OK (CX ⟨by decide, by decide⟩ _ _ _ _) (OK ⟨by decide, by decide⟩ ⟨by decide, by decide⟩ _ _ _ _) _ _ _ _
def n8 (p : eB) : Bool := !p.no && decide (p.fn * p.de ≤ p.dw * p.fd)
def tz (p q : eB) : Bool := decide (p.fn * q.de ≤ q.dw * p.fd)
theorem LF {N : Rat → aj → Prop} : ∀ {V : List aj} {t : Rat}, wm N t V → ∀ v ∈ V, ∃ s, t ≤ s ∧ s ≤ 1 ∧ N s v
 | [], _, _, v, hv => by cases hv
 | w :: V, t, ⟨u, h1, h2, ao, aD⟩, v, hv => by
  rcases gj.1 hv with rfl | hv
  ·exact ⟨u, h1, h2, ao⟩
  ·obtain ⟨s, g1, g2⟩ := LF aD v hv;exact ⟨s, o4 h1 g1, g2⟩
theorem CN {a1 a2 b1 b2 S far : Int} {v : aj} {t : Rat} (az : 0 ≤ t) (h1 : t ≤ 1) (h : kD a1 a2 b1 b2 S (aO far) t v) : (dS a1 a2 b1 b2 S far v).In t := zT.2 ⟨⟨az, h1⟩, h⟩
theorem LG {a1 a2 b1 b2 S far : Int} : ∀ {V : List aj} {t0 : Rat}, 0 ≤ t0 → wm (kD a1 a2 b1 b2 S (aO far)) t0 V → (V.map (dS a1 a2 b1 b2 S far)).Pairwise (fun p q => tz p q = true) ∧ ∀ p ∈ V.map (dS a1 a2 b1 b2 S far), n8 p = true
 | [], _, _, _ => ⟨.nil, fun p hp => by cases hp⟩
 | v :: V, t0, az, ⟨t, h1, h2, ao, aD⟩ => by
  have aB := o4 az h1;obtain ⟨i1, i2⟩ := LG aB aD;have hi := CN aB h2 ao;have hv := rc a1 a2 b1 b2 S far v;refine ⟨ir.2 ⟨fun q an => ?_, i1⟩, fun p hp => ?_⟩
  ·obtain ⟨w, hw, rfl⟩ := gm.1 an;obtain ⟨s, g1, g2, g3⟩ := LF aD w hw;have ae := CN (o4 aB g1) g2 g3;have nl := rc a1 a2 b1 b2 S far w;unfold tz;exact bZ ((lR hv.1 nl.2).1 (o4 hi.2.1 (o4 g1 ae.2.2)))
  ·rcases gj.1 hp with rfl | hp
   ·unfold n8;rw [hi.1, bZ ((lR hv.1 hv.2).1 (o4 hi.2.1 hi.2.2))]; rfl
   ·exact i2 p hp
theorem Iu {a1 a2 b1 b2 S far : Int} : ∀ {V : List aj} {t0 : Rat}, (∀ v ∈ V, t0 ≤ fB (dS a1 a2 b1 b2 S far v).dw (dS a1 a2 b1 b2 S far v).de) → (V.map (dS a1 a2 b1 b2 S far)).Pairwise (fun p q => tz p q = true) → (∀ p ∈ V.map (dS a1 a2 b1 b2 S far), n8 p = true) → wm (kD a1 a2 b1 b2 S (aO far)) t0 V
 | [], _, _, _, _ => trivial
 | v :: V, t0, az, ak, aA => by
  have al := ir.1 ak;have hv := rc a1 a2 b1 b2 S far v;have h1 := aA _ (jd ..);unfold n8 at h1;simp only [c5, oc, b4] at h1;have h2 := (lR hv.1 hv.2).2 h1.2;have ao := az v (jd ..)
  have u6 : ∀ w ∈ V, fB (dS a1 a2 b1 b2 S far v).fn (dS a1 a2 b1 b2 S far v).fd ≤ fB (dS a1 a2 b1 b2 S far w).dw (dS a1 a2 b1 b2 S far w).de := fun w hw => by
   have := of_decide_eq_true (al.1 _ (gm.2 ⟨w, hw, rfl⟩));exact (lR hv.1 (rc a1 a2 b1 b2 S far w).2).2 this
  by_cases hm : t0 ≤ fB (dS a1 a2 b1 b2 S far v).fn (dS a1 a2 b1 b2 S far v).fd
  ·have hi := zT.1 (show (dS a1 a2 b1 b2 S far v).In (fB (dS a1 a2 b1 b2 S far v).fn (dS a1 a2 b1 b2 S far v).fd) from ⟨h1.1, Rat.le_refl, h2⟩);exact ⟨_, hm, hi.1.2, hi.2, Iu u6 al.2 fun p hp => aA p (k5 _ hp)⟩
  ·have fq := mL (Rat.not_le.1 hm);have hi := zT.1 (show (dS a1 a2 b1 b2 S far v).In t0 from ⟨h1.1, fq, ao⟩);exact ⟨t0, Rat.le_refl, hi.1.2, hi.2, Iu (fun w hw => az w (k5 _ hw)) al.2 fun p hp => aA p (k5 _ hp)⟩
theorem V1 {a1 a2 b1 b2 S far : Int} {V : List aj} : LI (kD a1 a2 b1 b2 S (aO far)) V ↔ (∃ v, V.head? = some v ∧ (dS a1 a2 b1 b2 S far v).fn = 0) ∧ (∃ v, V.getLast? = some v ∧ (dS a1 a2 b1 b2 S far v).dw = (dS a1 a2 b1 b2 S far v).de) ∧ (V.map (dS a1 a2 b1 b2 S far)).Pairwise (fun p q => tz p q = true) ∧ ∀ p ∈ V.map (dS a1 a2 b1 b2 S far), n8 p = true := by
 constructor
 ·rintro ⟨⟨v, h1, h2⟩, ⟨w, ao, aD⟩, cm⟩;obtain ⟨g1, g2⟩ := LG Rat.le_refl cm;refine ⟨⟨v, h1, ?_⟩, ⟨w, ao, ?_⟩, g1, g2⟩
  ·have hi := CN Rat.le_refl (by decide) h2;have hv := rc a1 a2 b1 b2 S far v;have ak := (IA a1 a2 b1 b2 S far v).1;have := hi.2.1;rw [← BP, lR hv.1 (by decide)] at this;omega
  ·have hi := CN (by decide) Rat.le_refl aD;have hv := rc a1 a2 b1 b2 S far w;have ak := (IA a1 a2 b1 b2 S far w).2;have := hi.2.2;rw [← BQ, lR (by decide) hv.2] at this;omega
 ·rintro ⟨⟨v, h1, h2⟩, ⟨w, ao, aD⟩, cm, eQ⟩
  have all : ∀ u ∈ V, 0 ≤ fB (dS a1 a2 b1 b2 S far u).dw (dS a1 a2 b1 b2 S far u).de := fun u hu => by
   have hv := rc a1 a2 b1 b2 S far u;have ak := (IA a1 a2 b1 b2 S far u).1;have aA := eQ _ (gm.2 ⟨u, hu, rfl⟩);unfold n8 at aA;simp only [c5, oc, b4] at aA;have e := (lR hv.1 hv.2).2 aA.2;refine o4 ?_ e;rw [← BP, lR (by decide) hv.1];omega
  have hq : ∀ u ∈ V, (dS a1 a2 b1 b2 S far u).no = false ∧ fB (dS a1 a2 b1 b2 S far u).fn (dS a1 a2 b1 b2 S far u).fd ≤ fB (dS a1 a2 b1 b2 S far u).dw (dS a1 a2 b1 b2 S far u).de := fun u hu => by
   have hv := rc a1 a2 b1 b2 S far u;have aA := eQ _ (gm.2 ⟨u, hu, rfl⟩);unfold n8 at aA;simp only [c5, oc, b4] at aA;exact ⟨aA.1, (lR hv.1 hv.2).2 aA.2⟩
  refine ⟨⟨v, h1, ?_⟩, ⟨w, ao, ?_⟩, Iu all cm eQ⟩
  ·have hm : v ∈ V := List.mem_of_mem_head? h1;have hv := rc a1 a2 b1 b2 S far v;refine (zT.1 (show (dS a1 a2 b1 b2 S far v).In 0 from ⟨(hq v hm).1, ?_, all v hm⟩)).2;rw [← BP, lR hv.1 (by decide), h2];omega
  ·have hm : w ∈ V := List.mem_of_getLast? ao;have hv := rc a1 a2 b1 b2 S far w
   have aF : fB (dS a1 a2 b1 b2 S far w).dw (dS a1 a2 b1 b2 S far w).de = 1 := by
    refine Rat.le_antisymm ?_ ?_
    ·rw [← BQ, lR hv.2 (by decide)]; omega
    ·rw [← BQ, lR (by decide) hv.2]; omega
   have aP := (hq w hm).2;rw [aF] at aP;exact (zT.1 (show (dS a1 a2 b1 b2 S far w).In 1 from ⟨(hq w hm).1, aP, by rw [aF]; exact Rat.le_refl⟩)).2
end Go.Proofs.YtbcecodakfejaaaGreat
namespace Go.Proofs.YtbcecodakfejaaaGreat
open Go.RowKit
abbrev tS (p : eB) : List AC := [.c (.bool (decide (p.fn < 0))), .p (mj p.fn), .c (.bool (decide (p.fd < 0))), .p (mj p.fd), .c (.bool (decide (p.dw < 0))), .p (mj p.dw), .c (.bool (decide (p.de < 0))), .p (mj p.de), .c (.bool p.no)]
abbrev xF (p : eB) : ah := .w (.agg (tS p))
theorem Qz {n : Int} (az : -9223372036854775808 ≤ n) (h1 : n < 9223372036854775808) : aH ag 43 [aE n] (vw n 1) := by
 have aW := ra az h1;have bH := ra (n := 1) (by decide) (by decide);clear az h1;refine bl (f := 43) Tryz.func43 rfl rfl rfl rfl ?_;(refine cc ?_)
 ((refine bd rfl (cL rfl rfl rfl aL) ?_))
 exact ah.aS.refl _
theorem aeM {fn fd dw de a low high : Int} {no r : Bool} (aJ : -1073741824 ≤ a ∧ a ≤ 1073741824) (cs : (no = true ∧ r = true) ∨ (no = false ∧ 2 * a < low ∧ r = true) ∨ (no = false ∧ ¬ 2 * a < low ∧ 2 * a > high ∧ r = true) ∨ (no = false ∧ ¬ 2 * a < low ∧ ¬ 2 * a > high ∧ r = false)) :
  aH ag 42 [xF ⟨fn, fd, dw, de, no⟩, aE a, aE a, aE low, aE high] (xF ⟨fn, fd, dw, de, r⟩) := by
 rcases cs with ⟨rfl, rfl⟩ | ⟨rfl, q1, rfl⟩ | ⟨rfl, q1, q2, rfl⟩ | ⟨rfl, q1, q2, rfl⟩
 all_goals
  refine bl (f := 42) Tryz.func42 rfl rfl rfl rfl ?_;(repeat first | refine eA ?_ | (with_reducible apply cg (c := true)); rfl; rfl; (exact bZ (by omega)) | (with_reducible apply cg (c := false)); rfl; rfl; (exact cp (by omega)))
  ((refine bd rfl (cL rfl rfl rfl aL) ?_))
  first | exact ah.aS.refl _ | exact ah.aS.of_eq (by rw [bZ (show high < 2 * a from q2)]; rfl) | exact ah.aS.of_eq (by rw [cp (show ¬ high < 2 * a from q2)]; rfl)
theorem aeN {fn fd dw de a b low high F T dn c1 c2 : Int} {no : Bool} (gb : ¬ a = b) (aJ : -134217728 ≤ a ∧ a ≤ 134217728) (ab : -134217728 ≤ b ∧ b ≤ 134217728) (ak : -1073741824 ≤ low ∧ low ≤ 1073741824) (aR : -1073741824 ≤ high ∧ high ≤ 1073741824)
  (VO : (2 * (b - a) < 0 ∧ F = 2 * a - high ∧ T = 2 * a - low ∧ dn = -(2 * (b - a))) ∨ (¬ 2 * (b - a) < 0 ∧ F = low - 2 * a ∧ T = high - 2 * a ∧ dn = 2 * (b - a)))
  (kn : aH ag 44 [vw F dn, vw fn fd] (aE c1)) (lb : aH ag 44 [vw T dn, vw dw de] (aE c2)) {FW FR Jk Jj : Int}
  (aF : (c1 > 0 ∧ FW = F ∧ FR = dn) ∨ (¬ c1 > 0 ∧ FW = fn ∧ FR = fd)) (aP : (c2 < 0 ∧ Jk = T ∧ Jj = dn) ∨ (¬ c2 < 0 ∧ Jk = dw ∧ Jj = de)) :
  aH ag 42 [xF ⟨fn, fd, dw, de, no⟩, aE a, aE b, aE low, aE high] (xF ⟨FW, FR, Jk, Jj, no⟩) := by
 have JV := ra (n := low - 2 * a) (by omega) (by omega);have JW := ra (n := high - 2 * a) (by omega) (by omega);have ahx := ra (n := 2 * (b - a)) (by omega) (by omega);have ahy := ra (n := 2 * a - high) (by omega) (by omega);have ahz := ra (n := 2 * a - low) (by omega) (by omega);have ahA := ra (n := -(2 * (b - a))) (by omega) (by omega);rcases VO with ⟨c0, rfl, rfl, rfl⟩ | ⟨c0, rfl, rfl, rfl⟩
 all_goals
  rcases aF with ⟨q1, rfl, rfl⟩ | ⟨q1, rfl, rfl⟩ <;> rcases aP with ⟨q2, rfl, rfl⟩ | ⟨q2, rfl, rfl⟩
 all_goals
  refine bl (f := 42) Tryz.func42 rfl rfl rfl rfl ?_;(refine cc ?_)
  ((refine bd rfl (cL rfl rfl rfl aL) ?_))
  exact ah.aS.refl _
theorem Qt {p : eB} {a b low high : Int} (aJ : -134217728 ≤ a ∧ a ≤ 134217728) (ab : -134217728 ≤ b ∧ b ≤ 134217728) (ak : -1073741824 ≤ low ∧ low ≤ 1073741824) (aR : -1073741824 ≤ high ∧ high ≤ 1073741824)
  (b1 : dL 50 p.fn) (b2 : dL 50 p.fd) (dm : dL 50 p.dw) (cY : dL 50 p.de) : aH ag 42 [xF p, aE a, aE b, aE low, aE high] (xF (kB p a b low high)) := by
 obtain ⟨fn, fd, dw, de, no⟩ := p;unfold kB
 by_cases gb : a = b
 ·subst gb;rw [if_pos rfl];refine aeM (by omega) ?_;simp only;cases no with
  | true => exact .inl ⟨rfl, rfl⟩
  | false =>
   by_cases q1 : 2 * a < low
   ·exact .inr (.inl ⟨rfl, q1, by simp [q1]⟩)
   ·by_cases q2 : high < 2 * a
    ·exact .inr (.inr (.inl ⟨rfl, q1, q2, by simp [q2]⟩))
    ·exact .inr (.inr (.inr ⟨rfl, q1, q2, by simp [q1, q2]⟩))
 ·rw [if_neg gb];have bn : dL 50 (iw a b low high) := (show dL 5 (iw a b low high) from q0 (by unfold iw; split <;> omega) (by unfold iw; split <;> omega)).up (by omega);have bY : dL 50 (iI a b low high) := (show dL 5 (iI a b low high) from q0 (by unfold iI; split <;> omega) (by unfold iI; split <;> omega)).up (by omega);have fW : dL 50 (ff a b) := (show dL 5 (ff a b) from q0 (by unfold ff; split <;> omega) (by unfold ff; split <;> omega)).up (by omega);refine aeN (F := iw a b low high) (T := iI a b low high) (dn := ff a b) gb aJ ab ak aR ?_ (xk (bn.up (by omega)) (fW.up (by omega)) (b1.up (by omega)) (b2.up (by omega))) (xk (bY.up (by omega)) (fW.up (by omega)) (dm.up (by omega)) (cY.up (by omega))) ?_ ?_
  ·unfold iw iI ff
   by_cases q : 2 * (b - a) < 0
   ·exact .inl ⟨q, by rw [if_pos q], by rw [if_pos q], by rw [if_pos q]⟩
   ·exact .inr ⟨q, by rw [if_neg q], by rw [if_neg q], by rw [if_neg q]⟩
  ·simp only;have := CI (iw a b low high * fd) (fn * ff a b)
   by_cases q : fn * ff a b < iw a b low high * fd
   ·exact .inl ⟨by omega, by rw [if_pos q], by rw [if_pos q]⟩
   ·exact .inr ⟨by omega, by rw [if_neg q], by rw [if_neg q]⟩
  ·simp only;have := N1 (iI a b low high * de) (dw * ff a b)
   by_cases q : iI a b low high * de < dw * ff a b
   ·exact .inl ⟨by omega, by rw [if_pos q], by rw [if_pos q]⟩
   ·exact .inr ⟨by omega, by rw [if_neg q], by rw [if_neg q]⟩
abbrev jz (V : List aj) (D : List Int) : ah := .w (.agg [.p (bX 2 V.length (bD V)), .p (bX 1 D.length (ck D))])
def lz : List eB → List AC
 | [] => []
 | p :: ps => tS p ++ lz ps
theorem Iz : ∀ ps : List eB, (lz ps).length = ps.length * 9
 | [] => rfl
 | p :: ps => by simp only [lz, cF, Iz ps, jQ, List.length_nil]; omega
theorem Q5 : ∀ (ps : List eB) (p : eB), lz ps ++ tS p = lz (ps ++ [p])
 | [], p => by simp [lz]
 | q :: ps, p => by simp only [List.cons_append, lz, ← Q5 ps p, im]
theorem Iy : ∀ {ps : List eB} {i : Nat} {p : eB}, ps[i]? = some p → ((lz ps).drop (i * 9)).take 9 = tS p
 | [], i, p, h => by simp at h
 | q :: ps, 0, p, h => by simp at h; subst h; simp [lz]
 | q :: ps, i + 1, p, h => by
  have := Iy (ps := ps) (i := i) (p := p) (by simpa using h);rw [← this, show (i + 1) * 9 = 9 + i * 9 by omega, ← re];rfl
theorem aey {ps : List eB} {j : Int} {i : Nat} {p : eB} (ae : j = i) (h : ps[i]? = some p) : ((lz ps).drop (j.toNat * 9)).take 4 = [.c (.bool (decide (p.fn < 0))), .p (mj p.fn), .c (.bool (decide (p.fd < 0))), .p (mj p.fd)] := by
 subst ae;have := congrArg (List.take 4) (Iy h);rw [List.take_take] at this;exact this
theorem aez {ps : List eB} {j : Int} {i : Nat} {p : eB} (ae : j = i) (h : ps[i]? = some p) : ((lz ps).drop (j.toNat * 9 + 4)).take 4 = [.c (.bool (decide (p.dw < 0))), .p (mj p.dw), .c (.bool (decide (p.de < 0))), .p (mj p.de)] := by
 subst ae;have := congrArg (fun l => (l.drop 4).take 4) (Iy h);simp only [List.drop_take, List.take_take, re] at this;exact this
abbrev si (v : Value) (ps : List eB) : bE := ⟨89, 9, v, ps.length, lz ps⟩
theorem aeC (v : Value) (ps : List eB) (p : eB) : si v (ps ++ [p]) = ⟨89, 9, v, ps.length + 1, lz ps ++ tS p⟩ := by
 unfold si; rw [← Q5, cF]; rfl
instance ai2 : mV ag 83 89 9 136 := ⟨by kernel_rfl⟩
def eB.small (p : eB) : Prop := dL 50 p.fn ∧ dL 50 p.fd ∧ dL 50 p.dw ∧ dL 50 p.de
theorem CY {p : eB} {a b low high : Int} (hp : p.small) (aJ : -134217728 ≤ a ∧ a ≤ 134217728) (ab : -134217728 ≤ b ∧ b ≤ 134217728) (ak : -1073741824 ≤ low ∧ low ≤ 1073741824) (aR : -1073741824 ≤ high ∧ high ≤ 1073741824) : (kB p a b low high).small := by
 have bn : dL 50 (iw a b low high) := (show dL 5 (iw a b low high) from q0 (by unfold iw; split <;> omega) (by unfold iw; split <;> omega)).up (by omega);have bY : dL 50 (iI a b low high) := (show dL 5 (iI a b low high) from q0 (by unfold iI; split <;> omega) (by unfold iI; split <;> omega)).up (by omega);have fW : dL 50 (ff a b) := (show dL 5 (ff a b) from q0 (by unfold ff; split <;> omega) (by unfold ff; split <;> omega)).up (by omega);obtain ⟨h1, h2, ao, aD⟩ := hp;unfold kB
 by_cases gb : a = b
 ·rw [if_pos gb]; exact ⟨h1, h2, ao, aD⟩
 ·rw [if_neg gb];refine ⟨?_, ?_, ?_, ?_⟩
  ·simp only; split
   ·exact bn
   ·exact h1
  ·simp only; split
   ·exact fW
   ·exact h2
  ·simp only; split
   ·exact bY
   ·exact ao
  ·simp only; split
   ·exact fW
   ·exact aD
theorem rb : pZ.small := ⟨(q0 (n := 0) (by omega) (by omega)).up (by omega), (q0 (n := 1) (by omega) (by omega)).up (by omega), (q0 (n := 1) (by omega) (by omega)).up (by omega), (q0 (n := 1) (by omega) (by omega)).up (by omega)⟩
theorem Ob {r : Nat} {x y : Int} (h : dd r x y = true) : (-134217728 ≤ 2 ^ r * x ∧ 2 ^ r * x ≤ 134217728) ∧ -134217728 ≤ 2 ^ r * y ∧ 2 ^ r * y ≤ 134217728 := by
 have hS : (0 : Int) < 2 ^ r := gp (by decide);unfold dd wi at h;simp only [c5, b4] at h;have e := Int.ediv_mul_le 134217728 (show (2 : Int) ^ r ≠ 0 by omega);generalize (2 : Int) ^ r = S at *;generalize (134217728 : Int) / S = m at *
 have key : ∀ z : Int, -m ≤ z → z ≤ m → -134217728 ≤ S * z ∧ S * z ≤ 134217728 := fun z h1 h2 => by
  have a1 := od h1 (show 0 ≤ S by omega);have a2 := od h2 (show 0 ≤ S by omega);have a3 : S * -m = -(m * S) := by grind
  have a4 : S * m = m * S := by grind
  omega
 exact ⟨key x (by omega) (by omega), key y (by omega) (by omega)⟩
def lM (a1 a2 b1 b2 : Int) (r : Nat) (far : Int) (V : List aj) : Bool := (V.all fun v => dd r v.1 v.2) && ((V.map (dS a1 a2 b1 b2 (2 ^ r) far)).all n8) && decide ((V.map (dS a1 a2 b1 b2 (2 ^ r) far)).Pairwise fun p q => tz p q = true)
def uK (ps : List eB) : Bool := match ps.head?, ps.getLast? with
 | some p, some q => decide (p.fn = 0) && decide (q.dw = q.de)
 | _, _ => false
def preB (a1 a2 b1 b2 k far : Int) (n : Nat) : Bool := decide (0 ≤ k ∧ k ≤ 28) && b7 a1 a2 && b7 b1 b2 && decide (0 ≤ far) && decide (far ≤ 268435456) && !decide (n = 0)
def sX (a1 a2 b1 b2 k far : Int) (V : List aj) : Bool := preB a1 a2 b1 b2 k far V.length && lM a1 a2 b1 b2 k.toNat far V && uK (V.map (dS a1 a2 b1 b2 (2 ^ k.toNat) far))
theorem V0 {a1 a2 b1 b2 k far : Int} {V : List aj} : sX a1 a2 b1 b2 k far V = true ↔ preB a1 a2 b1 b2 k far V.length = true ∧ (∀ v ∈ V, dd k.toNat v.1 v.2 = true) ∧ LI (kD a1 a2 b1 b2 (2 ^ k.toNat) (aO far)) V := by
 unfold sX lM;simp only [c5, b4];rw [b6, b6, V1]
 have e : uK (V.map (dS a1 a2 b1 b2 (2 ^ k.toNat) far)) = true ↔ (∃ v, V.head? = some v ∧ (dS a1 a2 b1 b2 (2 ^ k.toNat) far v).fn = 0) ∧ (∃ v, V.getLast? = some v ∧ (dS a1 a2 b1 b2 (2 ^ k.toNat) far v).dw = (dS a1 a2 b1 b2 (2 ^ k.toNat) far v).de) := by
  unfold uK;rw [List.head?_map, List.getLast?_map];cases h1 : V.head? with
  | none => simp
  | some p =>
   cases h2 : V.getLast? with
   | none => simp
   | some q => simp
 rw [e]
 constructor
 ·rintro ⟨⟨az, ⟨h1, h2⟩, ao⟩, aD, cm⟩; exact ⟨az, h1, aD, cm, ao, h2⟩
 ·rintro ⟨az, h1, aD, cm, ao, h2⟩; exact ⟨⟨az, ⟨h1, h2⟩, ao⟩, aD, cm⟩
theorem Q6 {ps : List eB} {j : Int} {i : Nat} {p : eB} (ae : j = i) (h : ps[i]? = some p) : j.toNat * 9 + 0 + 4 ≤ (lz ps).length ∧ ((lz ps).drop (j.toNat * 9 + 0)).take 4 = [.c (.bool (decide (p.fn < 0))), .p (mj p.fn), .c (.bool (decide (p.fd < 0))), .p (mj p.fd)] := by
 have := (bA.1 h).1;exact ⟨by rw [Iz]; omega, aey ae h⟩
theorem aeA {ps : List eB} {j : Int} {i : Nat} {p : eB} (ae : j = i) (h : ps[i]? = some p) : j.toNat * 9 + 4 + 4 ≤ (lz ps).length ∧ ((lz ps).drop (j.toNat * 9 + 4)).take 4 = [.c (.bool (decide (p.dw < 0))), .p (mj p.dw), .c (.bool (decide (p.de < 0))), .p (mj p.de)] := by
 have := (bA.1 h).1;exact ⟨by rw [Iz]; omega, aez ae h⟩
abbrev jL (V : List aj) (D : List Int) : List AC := [.p (bX 2 V.length (bD V)), .p (bX 1 D.length (ck D))]
theorem aeK {a1 a2 b1 b2 k far r : Int} {V : List aj} {D : List Int} {g1 g2 : Bool} (bh : aH ag 25 [aE k] (aE r)) (fk : aH ag 27 [aZ a1 a2] (bk g1)) (j4 : aH ag 27 [aZ b1 b2] (bk g2))
  (cs : ¬ k = r ∨ (k = r ∧ g1 = false) ∨ (k = r ∧ g1 = true ∧ g2 = false) ∨ (k = r ∧ g1 = true ∧ g2 = true ∧ far < 0) ∨ (k = r ∧ g1 = true ∧ g2 = true ∧ ¬ far < 0 ∧ far > 268435456) ∨ (k = r ∧ g1 = true ∧ g2 = true ∧ ¬ far < 0 ∧ ¬ far > 268435456 ∧ (V.length : Int) = 0)) : aH ag 21 [jz V D, aZ a1 a2, aZ b1 b2, aE k, aE far] (bk false) := by
 rcases cs with q1 | ⟨q1, rfl⟩ | ⟨q1, rfl, rfl⟩ | ⟨q1, rfl, rfl, q2⟩ | ⟨q1, rfl, rfl, q2, bR⟩ | ⟨q1, rfl, rfl, q2, bR, dD⟩
 all_goals
  try (have h1 : (!decide (k = r)) = true := by simp [q1])
  try (have h1 : (!decide (k = r)) = false := by simp [q1])
  refine bl (f := 21) Tryz.func21 rfl rfl rfl rfl ?_;(repeat first | refine eA ?_ | refine fi ?_ | (with_reducible apply cg (c := true)); rfl; rfl; (first | assumption | exact bZ (by omega)) | (with_reducible apply cg (c := false)); rfl; rfl; (first | assumption | exact cp (by omega)))
  ((refine bd rfl (a8 rfl aL) ?_))
  exact ah.aS.refl _
def SU (V : List aj) (D : List Int) (a1 a2 b1 b2 k far : Int) (r : Nat) (n : Nat) (R : aI) (aM : List (Nat × ah)) (bi : List (Nat × List AC)) : Prop :=
 ∃ (i : Nat) (v : Value) (ii : Int), i ≤ V.length ∧ n = V.length - i ∧ ii = i ∧ lM a1 a2 b1 b2 r far (V.take i) = true ∧ R = bt 0 (si v ((V.take i).map (dS a1 a2 b1 b2 (2 ^ r) far))) ∧ bi = [(5, jL V D), (6, kC a1 a2), (7, kC b1 b2)] ∧
  aM = [(3, aE k), (4, aE far), (5, jZ 5), (6, jZ 6), (7, jZ 7), (11, aQ v), (12, aE ii)]
def Tt (V : List aj) (D : List Int) (a1 a2 b1 b2 k far : Int) (ps : List eB) (p : eB) (v : Value) (ii : Int) (n : Nat) (R : aI) (aM : List (Nat × ah)) (bi : List (Nat × List AC)) : Prop :=
 ∃ (j : Nat) (ek : Int), j ≤ ps.length ∧ n = ps.length - j ∧ ek = j ∧ (∀ q ∈ ps.take j, tz q p = true) ∧ R = bt 0 (si v ps) ∧ bi = [(5, jL V D), (6, kC a1 a2), (7, kC b1 b2), (15, tS p)] ∧
  aM = [(3, aE k), (4, aE far), (5, jZ 5), (6, jZ 6), (7, jZ 7), (11, aQ v), (12, aE ii), (15, jZ 15), (16, aE ek)]
theorem V9 {a1 a2 b1 b2 far : Int} {r : Nat} {V : List aj} {i : Nat} {x y : Int} (h : V[i]? = some (x, y)) : lM a1 a2 b1 b2 r far (V.take (i + 1)) = true ↔ lM a1 a2 b1 b2 r far (V.take i) = true ∧ dd r x y = true ∧ n8 (dS a1 a2 b1 b2 (2 ^ r) far (x, y)) = true ∧ ∀ q ∈ (V.take i).map (dS a1 a2 b1 b2 (2 ^ r) far), tz q (dS a1 a2 b1 b2 (2 ^ r) far (x, y)) = true := by
 have e : V.take (i + 1) = V.take i ++ [(x, y)] := by
  rw [jT (bA.1 h).1, (bA.1 h).2]
 unfold lM;rw [e];simp only [List.map_append, kG, List.map_nil, List.all_append, jV, l9, Bool.and_true, c5, b4, List.pairwise_append, List.pairwise_singleton, kF, true_and]
 constructor
 ·rintro ⟨⟨⟨h1, h2⟩, ao, aD⟩, cm, eQ⟩; exact ⟨⟨⟨h1, ao⟩, cm⟩, h2, aD, fun q an => eQ q an _ rfl⟩
 ·rintro ⟨⟨⟨h1, ao⟩, cm⟩, h2, aD, eQ⟩; exact ⟨⟨⟨h1, h2⟩, ao, aD⟩, cm, fun q an b ab => by rw [ab]; exact eQ q an⟩
theorem Wa {a1 a2 b1 b2 far : Int} {r : Nat} {V : List aj} (i : Nat) (h : lM a1 a2 b1 b2 r far (V.take i) = false) : lM a1 a2 b1 b2 r far V = false := by
 cases aR : lM a1 a2 b1 b2 r far V with
 | false => rfl
 | true =>
  have : lM a1 a2 b1 b2 r far (V.take i) = true := by
   unfold lM at aR ⊢;simp only [c5, b4, b6] at aR ⊢;refine ⟨⟨fun v hv => aR.1.1 v (mI hv), fun p hp => ?_⟩, ?_⟩
   ·obtain ⟨v, hv, rfl⟩ := gm.1 hp;exact aR.1.2 _ (gm.2 ⟨v, mI hv, rfl⟩)
   ·rw [List.map_take];exact List.Pairwise.sublist (List.take_sublist _ _) aR.2
  rw [h] at this;cases this
theorem WS {ps : List eB} {p q : eB} (az : ps[0]? = some p) (h1 : ps[ps.length - 1]? = some q) : uK ps = (decide (p.fn = 0) && decide (q.dw = q.de)) := by
 unfold uK;rw [List.head?_eq_getElem?, az, List.getLast?_eq_getElem?, h1]
theorem aeB {a1 a2 b1 b2 far : Int} {r : Nat} {v : aj} (ss : b7 a1 a2 = true) (su : b7 b1 b2 = true) (f0 : 0 ≤ far) (f1 : far ≤ 268435456) (h : dd r v.1 v.2 = true) : (dS a1 a2 b1 b2 (2 ^ r) far v).small := by
 have oa := oh.1 ss;have ob := oh.1 su;have K4 := Ob h;have ex : 2 * 2 ^ r * v.1 = 2 * (2 ^ r * v.1) := by grind
 have jm : 2 * 2 ^ r * v.2 = 2 * (2 ^ r * v.2) := by grind
 exact CY (CY rb oa.1 ob.1 (by omega) (by omega)) oa.2 ob.2 (by omega) (by omega)
theorem aeL {a1 a2 b1 b2 far : Int} {r : Nat} {V : List aj} {D : List Int} (ap : r ≤ 28) (ss : b7 a1 a2 = true) (su : b7 b1 b2 = true) (f0 : 0 ≤ far) (f1 : far ≤ 268435456) (mr : 0 < V.length) (fD : ∀ v ∈ V, uv v) (ak : V.length ≤ 1100) :
  aH ag 21 [jz V D, aZ a1 a2, aZ b1 b2, aE r, aE far] (bk (lM a1 a2 b1 b2 r far V && uK (V.map (dS a1 a2 b1 b2 (2 ^ r) far)))) := by
 have aw : fQ (r : Int) r := ⟨ap, .inr (.inr rfl)⟩;have bh := zQ aw;have fk := tO ss;have j4 := tO su;have JS := Qz (n := 0) (by decide) (by decide);have ux := Qz (n := 1) (by decide) (by decide);have Z := adl aw;have oa := oh.1 ss;have ob := oh.1 su;have CA := fun v => aeB (v := v) (r := r) ss su f0 f1;clear ss su;have h1 : (!decide ((r : Int) = r)) = false := by simp
 have g2 : ¬ far < 0 := by omega
 have g3 : ¬ far > 268435456 := by omega
 have g4 : ¬ (V.length : Int) = 0 := by omega
 have hS : (0 : Int) < 2 ^ r := gp (by decide)
 have Gt : (2 : Int) ^ r ≤ 268435456 := by
  have := Int.ofNat_le.2 (vv (show 0 < 2 by decide) ap);rw [Int.natCast_pow] at this;exact this
 have pI := fun x y (h : dd r x y = true) => Ob h;have Cv := fun x y (az : uv (x, y)) => QA (x := x) (y := y) (b := dd r x y) aw (by have := az.1; simp only at this; omega) (by have := az.1; simp only at this; omega) (by have := az.2; simp only at this; omega) (by have := az.2; simp only at this; omega) rfl;have CB := fun i x y (h : V[i]? = some (x, y)) => V9 (a1 := a1) (a2 := a2) (b1 := b1) (b2 := b2) (far := far) (r := r) h;have GG : ∀ v, dS a1 a2 b1 b2 (2 ^ r) far v = kB (kB pZ a1 b1 (2 * 2 ^ r * v.1 - far) (2 * 2 ^ r * v.1 + far)) a2 b2 (2 * 2 ^ r * v.2 - far) (2 * 2 ^ r * v.2 + far) := fun v => rfl;refine bl (f := 21) Tryz.func21 rfl rfl rfl rfl ?_;refine pw ?_;refine mb 0 89 9 rfl ?_;(repeat first | refine cu ?_ | (with_reducible apply gf); rfl; (repeat first | refine gP ?_ | refine fi ?_ | (with_reducible apply cg (c := false)); rfl; rfl; (first | assumption | exact cp (by omega))); (with_reducible apply fL));refine jW 154 (SU V D a1 a2 b1 b2 r far r) V.length (bt 0 (si (.slice none 0 0) [])) _ [(5, jL V D), (6, kC a1 a2), (7, kC b1 b2)] ⟨0, .slice none 0 0, 0, dx _, rfl, rfl, rfl, rfl, rfl, rfl⟩ (kI _ _ _) rfl ⟨rfl, rfl, rfl, rfl, rfl, rfl, rfl, trivial⟩ ⟨rfl, rfl, rfl, trivial⟩ rfl ?_;clear bh fk j4 h1;rintro n R aM bi ⟨i, v, ii, hi, rfl, fp, qI, rfl, rfl, rfl⟩ cT;clear cT
 by_cases an : i < V.length
 ·have q2 : ii < (V.length : Int) := by omega
  have bR : 0 ≤ ii := by omega
  obtain ⟨x, y, g1⟩ : ∃ x y, V[i]? = some (x, y) := ⟨_, _, bJ an⟩;have iK := lV fp g1;have lc := Cv x y (fD _ (cV g1));have nj := CB i x y g1
  have qK : ¬ lM a1 a2 b1 b2 r far (V.take (i + 1)) = true → (lM a1 a2 b1 b2 r far V && uK (V.map (dS a1 a2 b1 b2 (2 ^ r) far))) = false := fun h => by
   rw [Wa (i + 1) (by simpa using h), Bool.false_and]
  rw [qI] at nj;cases ab : dd r x y with
  | false =>
   rw [qK (by rw [nj, ab]; simp)];rw [ab] at lc;clear nj qK CB Cv GG pI fD JS ux Z;(refine nF ?_)
   ((refine bd rfl (a8 rfl aL) ?_))
   exact ah.aS.refl _
  | true =>
   rw [ab] at lc nj;have K4 := pI x y ab;have ex : 2 * 2 ^ r * x = 2 * (2 ^ r * x) := by grind
   have jm : 2 * 2 ^ r * y = 2 * (2 ^ r * y) := by grind
   have ahU : -268435456 ≤ 2 * 2 ^ r * x ∧ 2 * 2 ^ r * x ≤ 268435456 := by omega
   have ahV : -268435456 ≤ 2 * 2 ^ r * y ∧ 2 * 2 ^ r * y ≤ 268435456 := by omega
   clear ex jm K4;have AX := Qt (p := pZ) (a := a1) (b := b1) (low := 2 * 2 ^ r * x - far) (high := 2 * 2 ^ r * x + far) oa.1 ob.1 (by omega) (by omega) rb.1 rb.2.1 rb.2.2.1 rb.2.2.2;have xA := CY (p := pZ) (a := a1) (b := b1) (low := 2 * 2 ^ r * x - far) (high := 2 * 2 ^ r * x + far) rb oa.1 ob.1 (by omega) (by omega);have xW := Qt (p := kB pZ a1 b1 (2 * 2 ^ r * x - far) (2 * 2 ^ r * x + far)) (a := a2) (b := b2) (low := 2 * 2 ^ r * y - far) (high := 2 * 2 ^ r * y + far) oa.2 ob.2 (by omega) (by omega) xA.1 xA.2.1 xA.2.2.1 xA.2.2.2;have o9 := CY (p := kB pZ a1 b1 (2 * 2 ^ r * x - far) (2 * 2 ^ r * x + far)) (a := a2) (b := b2) (low := 2 * 2 ^ r * y - far) (high := 2 * 2 ^ r * y + far) xA oa.2 ob.2 (by omega) (by omega);rw [show kB (kB pZ a1 b1 (2 * 2 ^ r * x - far) (2 * 2 ^ r * x + far)) a2 b2 (2 * 2 ^ r * y - far) (2 * 2 ^ r * y + far) = dS a1 a2 b1 b2 (2 ^ r) far (x, y) from rfl] at xW o9;generalize nh : (V.take i).map (dS a1 a2 b1 b2 (2 ^ r) far) = ps at *;have oI : ps.length = i := by rw [← nh, lA, dX]; omega
   have y2 : (V.take (i + 1)).map (dS a1 a2 b1 b2 (2 ^ r) far) = ps ++ [dS a1 a2 b1 b2 (2 ^ r) far (x, y)] := by
    rw [jT an, (bA.1 g1).2, List.map_append, nh]; rfl
   have pU : ∀ q ∈ ps, q.small := fun q an => by
    rw [← nh] at an;obtain ⟨u, hu, rfl⟩ := gm.1 an;unfold lM at qI;simp only [c5] at qI;exact CA u (b6.1 qI.1.1 u hu)
   generalize dS a1 a2 b1 b2 (2 ^ r) far (x, y) = p at *;generalize kB pZ a1 b1 (2 * 2 ^ r * x - far) (2 * 2 ^ r * x + far) = p1 at *;have kn := xk (n := p.fn) (d := p.fd) (m := p.dw) (e := p.de) (o9.1.up (by omega)) (o9.2.1.up (by omega)) (o9.2.2.1.up (by omega)) (o9.2.2.2.up (by omega));have gd := CI (p.fn * p.de) (p.dw * p.fd);clear Cv pI CB GG xA g1 ab fD oa ob CA;cases h8 : p.no with
   | true =>
    rw [qK (by rw [nj]; unfold n8; rw [h8]; simp)];clear nj qK gd kn o9 y2 pU;(repeat first | (with_reducible apply cQ (id := 9) [0,1,2,3,4,5,6,7,8,9,10]); kernel_rfl; kernel_rfl; rfl | (with_reducible apply cQ (id := 10) [0,1,2,3,4,5,6,7,8,9,10]); kernel_rfl; kernel_rfl; rfl | (with_reducible apply cQ (id := 11) [14,0,1,2,3,4,5,6,7,8,9,10,11,12,13,15]); kernel_rfl; kernel_rfl; rfl | refine cu ?_ | (with_reducible apply gf); rfl; (repeat first | refine gP ?_ | refine fi ?_ | (with_reducible apply cg (c := true)); rfl; rfl; (assumption)); (with_reducible apply fL))
    ((refine bd rfl (a8 rfl aL) ?_))
    exact ah.aS.refl _
   | false =>
    by_cases iR : p.dw * p.fd < p.fn * p.de
    ·rw [qK (by rw [nj]; unfold n8; rw [cp (show ¬ p.fn * p.de ≤ p.dw * p.fd by omega)]; simp)];have iS : cj (p.fn * p.de) (p.dw * p.fd) > 0 := gd.2 iR;clear nj qK gd o9 y2 pU iR;generalize cj (p.fn * p.de) (p.dw * p.fd) = Bs at *;(repeat first | (with_reducible apply cQ (id := 9) [0,1,2,3,4,5,6,7,8,9,10]); kernel_rfl; kernel_rfl; rfl | (with_reducible apply cQ (id := 10) [0,1,2,3,4,5,6,7,8,9,10]); kernel_rfl; kernel_rfl; rfl | (with_reducible apply cQ (id := 11) [14,0,1,2,3,4,5,6,7,8,9,10,11,12,13,15]); kernel_rfl; kernel_rfl; rfl | refine cu ?_ | (with_reducible apply gf); rfl; (repeat first | refine gP ?_ | refine fi ?_ | (with_reducible apply cg (c := false)); rfl; rfl; (assumption)); (with_reducible apply fL))
     ((refine bd rfl (a8 rfl aL) ?_))
     exact ah.aS.refl _
    ·have iS : ¬ cj (p.fn * p.de) (p.dw * p.fd) > 0 := fun h => iR (gd.1 h);have NA : n8 p = true := by unfold n8; rw [h8]; simp; omega
     rw [NA] at nj;clear gd iR NA;generalize cj (p.fn * p.de) (p.dw * p.fd) = Bs at *;(repeat first | (with_reducible apply cQ (id := 9) [0,1,2,3,4,5,6,7,8,9,10]); kernel_rfl; kernel_rfl; rfl | (with_reducible apply cQ (id := 10) [0,1,2,3,4,5,6,7,8,9,10]); kernel_rfl; kernel_rfl; rfl | (with_reducible apply cQ (id := 11) [14,0,1,2,3,4,5,6,7,8,9,10,11,12,13,15]); kernel_rfl; kernel_rfl; rfl | refine cu ?_ | (with_reducible apply gf); rfl; (repeat first | refine gP ?_ | refine fi ?_ | (with_reducible apply cg (c := false)); rfl; rfl; (assumption)); (with_reducible apply fL));refine jW 154 (Tt V D a1 a2 b1 b2 r far ps p v ii) ps.length (bt 0 (si v ps)) _ [(5, jL V D), (6, kC a1 a2), (7, kC b1 b2), (15, tS p)] ⟨0, 0, dx _, rfl, rfl, fun q h => by simp at h, rfl, rfl, rfl⟩ (bz.refl _) rfl ⟨rfl, rfl, rfl, rfl, rfl, rfl, rfl, rfl, rfl, trivial⟩ ⟨rfl, rfl, rfl, rfl, trivial⟩ rfl ?_;clear lc Z JS ux AX xW kn;rintro n R aM bi ⟨j, ek, ae, rfl, nc, hle, rfl, rfl, rfl⟩ cT;clear cT
     by_cases NG : j < ps.length
     ·have p2 : ek < (ps.length : Int) := by omega
      have p3 : 0 ≤ ek := by omega
      have p4 : 0 < ps.length := by omega
      obtain ⟨q, g2⟩ : ∃ q, ps[j]? = some q := ⟨_, bJ NG⟩;have uk := Q6 nc g2;have NH := cV g2;have ub := pU q NH;have lb := xk (n := q.fn) (d := q.fd) (m := p.dw) (e := p.de) (ub.1.up (by omega)) (ub.2.1.up (by omega)) (o9.2.2.1.up (by omega)) (o9.2.2.2.up (by omega));have fT := CI (q.fn * p.de) (p.dw * q.fd)
      by_cases iR : p.dw * q.fd < q.fn * p.de
      ·rw [qK (by
        rw [nj];intro h;have := of_decide_eq_true (h.2.2.2 q NH);omega)]
       have Yi : cj (q.fn * p.de) (p.dw * q.fd) > 0 := fT.2 iR;clear nj qK fT o9 y2 pU iR hle g2 ub;generalize cj (q.fn * p.de) (p.dw * q.fd) = V2 at *;(repeat first | (with_reducible apply cQ (id := 18) [0,1,2,3,4,5,6,7,8]); kernel_rfl; kernel_rfl; rfl | refine cu ?_ | refine iJ ?_ | (with_reducible apply lr 0); (iterate 4 rfl); kernel_rfl; rfl | (with_reducible apply ib 0); (iterate 4 rfl); (omega); (assumption); rfl; kernel_rfl; rfl | (with_reducible apply rZ 0); (iterate 3 rfl); (assumption); kernel_rfl; rfl | (with_reducible apply ls 0); (iterate 3 rfl); (assumption); assumption; rfl; kernel_rfl; rfl)
       ((refine bd rfl (a8 rfl aL) ?_))
       exact ah.aS.refl _
      ·have Yi : ¬ cj (q.fn * p.de) (p.dw * q.fd) > 0 := fun h => iR (fT.1 h)
       have YX : ∀ cd ∈ ps.take (j + 1), tz cd p = true := fun cd aK => by
        rw [jT NG, (bA.1 g2).2] at aK;rcases jS.1 aK with aK | aK
        ·exact hle cd aK
        ·rw [kF.1 aK]; exact bZ (by omega)
       clear nj qK fT o9 y2 pU iR hle g2 ub;generalize cj (q.fn * p.de) (p.dw * q.fd) = V2 at *;(repeat first | (with_reducible apply cQ (id := 18) [0,1,2,3,4,5,6,7,8]); kernel_rfl; kernel_rfl; rfl | refine cu ?_ | refine iJ ?_ | (with_reducible apply lr 0); (iterate 4 rfl); kernel_rfl; rfl | (with_reducible apply ib 0); (iterate 4 rfl); (omega); (assumption); rfl; kernel_rfl; rfl | (with_reducible apply rZ 0); (iterate 3 rfl); (assumption); kernel_rfl; rfl | (with_reducible apply ls 0); (iterate 3 rfl); (assumption); assumption; rfl; kernel_rfl; rfl);exact ⟨ps.length - (j + 1), bt 0 (si v ps), _, [(5, jL V D), (6, kC a1 a2), (7, kC b1 b2), (15, tS p)], by omega, ⟨j + 1, ek + 1, by omega, rfl, by omega, YX, rfl, rfl, rfl⟩, bz.refl _, rfl, ⟨rfl, rfl, rfl, rfl, rfl, rfl, rfl, rfl, rfl, trivial⟩, ⟨rfl, rfl, rfl, rfl, trivial⟩, rfl⟩
     ·have p2 : ¬ ek < (ps.length : Int) := by omega
      have cq : ps.take j = ps := gn (by omega);rw [cq] at hle;have Yn := nj.2 ⟨rfl, rfl, rfl, hle⟩;clear nj qK o9 pU hle cq;(repeat first | refine cu ?_ | (with_reducible apply lr 0); (iterate 4 rfl); kernel_rfl; rfl);refine n2 0 rfl rfl rfl rfl ?q1 ?q2 rfl rfl (fun v' bQ => ?_)
      case q1 => exact js (by show ps.length + 1 ≤ 1000000; omega)
      case q2 => show (ps.length + 1) * 136 ≤ 140737488355328; omega
      (refine ba ?_);refine ⟨V.length - (i + 1), bt 0 (si v' (ps ++ [p])), _, [(5, jL V D), (6, kC a1 a2), (7, kC b1 b2)], by omega, ⟨i + 1, v', ii + 1, by omega, rfl, by omega, Yn, by rw [y2], rfl, rfl⟩, ?_, rfl, ⟨rfl, rfl, rfl, rfl, rfl, rfl, rfl, trivial⟩, ⟨rfl, rfl, rfl, trivial⟩, rfl⟩;rw [aeC]; exact kI _ _ _
 ·have q2 : ¬ ii < (V.length : Int) := by omega
  have cq : V.take i = V := gn (by omega);rw [cq] at qI ⊢;rw [qI, l8];generalize nh : V.map (dS a1 a2 b1 b2 (2 ^ r) far) = ps at *;have oI : ps.length = V.length := by rw [← nh, lA]
  have pU : ∀ q ∈ ps, q.small := fun q an => by
   rw [← nh] at an;obtain ⟨u, hu, rfl⟩ := gm.1 an;unfold lM at qI;simp only [c5] at qI;exact CA u (b6.1 qI.1.1 u hu)
  clear Cv pI CB GG fD oa ob CA qI nh;obtain ⟨p, g0⟩ : ∃ p, ps[0]? = some p := ⟨_, bJ (by omega)⟩;obtain ⟨q, BU⟩ : ∃ q, ps[ps.length - 1]? = some q := ⟨_, bJ (by omega)⟩;rw [WS g0 BU];have ahq := Q6 (j := 0) rfl g0;have ahr := aeA (j := (ps.length : Int) - 1) (by omega) BU;have sp := pU p (cV g0);have ub := pU q (cV BU);have Tb := xk (n := p.fn) (d := p.fd) (m := 0) (e := 1) (sp.1.up (by omega)) (sp.2.1.up (by omega)) (rb.1.up (by omega)) (rb.2.1.up (by omega));have ahp := xk (n := q.dw) (d := q.de) (m := 1) (e := 1) (ub.2.2.1.up (by omega)) (ub.2.2.2.up (by omega)) (rb.2.1.up (by omega)) (rb.2.1.up (by omega));have hf := Ht (p.fn * 1) (0 * p.fd);have nS := Ht (q.dw * 1) (1 * q.de);rw [Int.mul_one, Int.zero_mul] at hf;rw [Int.mul_one, Int.one_mul] at nS
  have ew : decide (q.dw = q.de) = decide (cj (q.dw * 1) (1 * q.de) = 0) := by
   rw [Int.mul_one, Int.one_mul]; exact tV.2 nS.symm
  rw [ew];have w1 : 0 < ps.length := by omega
  have ue : (0 : Int) < (ps.length : Int) := by omega
  have Et : IntKind.i64.wrap (((si v ps).n : Int) - 1) = (ps.length : Int) - 1 := (mw (by omega) : IntKind.i64.wrap ((ps.length : Int) - 1) = (ps.length : Int) - 1);have w2 : 0 ≤ (ps.length : Int) - 1 := by omega
  have w3 : (ps.length : Int) - 1 < ps.length := by omega
  clear nS ew pU sp ub g0 BU Z;rw [Int.mul_one, Int.zero_mul] at Tb
  by_cases ao : p.fn = 0
  ·have Gd : cj p.fn 0 = 0 := hf.2 ao;rw [bZ ao, l8];clear hf;generalize cj p.fn 0 = fW at *;generalize cj (q.dw * 1) (1 * q.de) = iX at *;(repeat first | (with_reducible apply cQ (id := 21) [0,1,2,3,4,5,6,7,8,9,10,11,12,13,14,15,16,17,18,19]); kernel_rfl; kernel_rfl; rfl | refine cu ?_ | (with_reducible apply gf); rfl; (repeat first | refine gP ?_ | refine fi ?_ | (with_reducible apply cg (c := true)); rfl; rfl; (exact bZ (by omega))); (with_reducible apply fL) | (with_reducible apply lr 0); (iterate 4 rfl); kernel_rfl; rfl | (with_reducible apply ib 0); (iterate 4 rfl); (omega); (assumption); rfl; kernel_rfl; rfl | (with_reducible apply rZ 0); (iterate 3 rfl); (assumption); kernel_rfl; rfl | (with_reducible apply ls 0); (iterate 3 rfl); (assumption); assumption; rfl; kernel_rfl; rfl)
   ((refine bd rfl (a8 rfl aL) ?_))
   exact ah.aS.refl _
  ·have Gd : ¬ cj p.fn 0 = 0 := fun h => ao (hf.1 h);rw [cp ao, Bool.false_and];clear hf;generalize cj p.fn 0 = fW at *;generalize cj (q.dw * 1) (1 * q.de) = iX at *;(repeat first | (with_reducible apply cQ (id := 21) [0,1,2,3,4,5,6,7,8,9,10,11,12,13,14,15,16,17,18,19]); kernel_rfl; kernel_rfl; rfl | refine cu ?_ | (with_reducible apply gf); rfl; (repeat first | refine gP ?_ | refine fi ?_ | (with_reducible apply cg (c := false)); rfl; rfl; (exact cp (by omega))); (with_reducible apply fL) | (with_reducible apply ib 0); (iterate 4 rfl); (omega); (assumption); rfl; kernel_rfl; rfl | (with_reducible apply rZ 0); (iterate 3 rfl); (assumption); kernel_rfl; rfl | (with_reducible apply ls 0); (iterate 3 rfl); (assumption); assumption; rfl; kernel_rfl; rfl)
   ((refine bd rfl (a8 rfl aL) ?_))
   exact ah.aS.refl _
abbrev Bo (b : Bool) : AC := .p (EO [.c (.bool (!b))])
abbrev vH (l d : Bool) : ah := .w (.one (.p (pg (.func 137) [Bo l, Bo d])))
theorem acK {a1 a2 b1 b2 : Int} : aH ag 101 [aZ a1 a2, aZ b1 b2] (vH (decide (b1 < a1)) (decide (b2 < a2))) := by
 have aF : decide (b1 ≥ a1) = !decide (b1 < a1) := by by_cases h : b1 < a1 <;> simp [h] <;> omega
 have aP : decide (b2 ≥ a2) = !decide (b2 < a2) := by by_cases h : b2 < a2 <;> simp [h] <;> omega
 refine aee (f := 101) Tryz.func101 rfl rfl rfl rfl ?_;refine KZ (Fh ?_);(refine eS ?_);refine KZ (Fh ?_);(refine eS ?_);refine KY 5 _ rfl rfl ?_;refine KY 6 _ rfl rfl ?_;refine Fh ?_;(repeat first | refine eA ?_ | refine UT (xs := [_, _]) (cs := [_, _]) rfl rfl rfl rfl ?_)
 ((refine bd rfl (a8 rfl aL) ?_))
 exact ah.aS.of_eq (by rw [aF, aP]; rfl)
theorem adq {x y z w : Int} {l d r : Bool} (ap : yg x y z w l d = r) : aH ag 137 [aZ x y, aZ z w, .w (.one (Bo l)), .w (.one (Bo d))] (bk r) := by
 have cs : (¬ x = z ∧ z < x ∧ r = l) ∨ (¬ x = z ∧ ¬ z < x ∧ r = !l) ∨ (x = z ∧ ¬ y = w ∧ w < y ∧ r = d) ∨ (x = z ∧ ¬ y = w ∧ ¬ w < y ∧ r = !d) ∨ (x = z ∧ y = w ∧ r = false) := by
  rw [← ap]; unfold yg
  by_cases h1 : x < z <;> by_cases h2 : z < x <;> by_cases ao : y < w <;> by_cases aD : w < y <;> simp [h1, h2, ao, aD] <;> omega
 clear ap;rcases cs with ⟨h1, h2, rfl⟩ | ⟨h1, h2, rfl⟩ | ⟨h1, ao, h2, rfl⟩ | ⟨h1, ao, h2, rfl⟩ | ⟨h1, ao, rfl⟩
 all_goals
  refine bl (f := 137) Tryz.func137 rfl rfl rfl rfl ?_;(repeat first | refine eA ?_ | (with_reducible apply UA); (iterate 4 rfl); kernel_rfl | (with_reducible apply cg (c := true)); rfl; rfl; ((simp only [nR]; (omega))) | (with_reducible apply cg (c := false)); rfl; rfl; ((simp only [nR]; (omega))))
  ((refine bd rfl (a8 rfl aL) ?_))
  first
  | exact ah.aS.refl _
  | exact ah.aS.of_eq (by rw [cp (show ¬ x < z by omega), Bool.false_beq, Bool.not_not]; rfl)
  | exact ah.aS.of_eq (by rw [bZ (show x < z by omega), Bool.true_beq]; rfl)
  | exact ah.aS.of_eq (by rw [cp (show ¬ y < w by omega), Bool.false_beq, Bool.not_not]; rfl)
  | exact ah.aS.of_eq (by rw [bZ (show y < w by omega), Bool.true_beq]; rfl)
section
variable {P : Program} {s : aC} {ops : Array Oper} {K : aC → Prop} {rest : List Oper} {ty : Nat} {pos : String} {after : Array Edge} {guard : Option (Nat × Bool)} {d : Nat}
theorem U7 {c6 dK : Nat} {x y : Operand} {a b : Int} (hw : want ops ⟨some d, .binOp .quo c6 x y dK, ty, pos, after, guard⟩ s = some true) (aa : s.look x = some (aQ (.int .i64 a))) (ai : s.look y = some (aQ (.int .i64 b))) (az : 0 ≤ a) (h1 : 0 < b) (h2 : a ≤ 9223372036854775807) (hd : Nat.blt d s.n = true) (h : bc P ops K rest (s.put (some d) (aQ (.int .i64 (a / b))))) : bc P ops K (⟨some d, .binOp .quo c6 x y dK, ty, pos, after, guard⟩ :: rest) s := by
 refine qs hw aa ai (fun W => ?_) rfl hd h;have ab : b ≠ 0 := by omega
 have e : a.tdiv b = a / b := Int.tdiv_eq_ediv_of_nonneg az
 have aP : IntKind.i64.wrap (a / b) = a / b := mw (by
  have := nC az (show 0 ≤ b by omega);have := Int.ediv_le_self b az;omega)
 simp [binOp, Op.intDiv, ab, e, aP]
end
theorem Om : bD [] = [] := rfl
theorem On (p : Int × Int) (l : List (Int × Int)) : ((bD (p :: l)).drop ((1 : Int).toNat * 2)).take (l.length * 2) = bD l := by
 show ((bD (p :: l)).drop 2).take (l.length * 2) = bD l;rw [← n5];simp [bD]
theorem Hw (p : Int × Int) (l : List (Int × Int)) : bD l ++ [.c (.int .i64 p.1), .c (.int .i64 p.2)] = bD (l ++ [p]) := by rw [qQ]; rfl
theorem aab (l : List (Int × Int)) (k : Nat) : ((bD l).drop (0 * 2)).take ((l.take k).length * 2) = bD (l.take k) := by
 have e : bD l = bD (l.take k) ++ bD (l.drop k) := by rw [← qQ, ju]
 rw [e, Nat.zero_mul, List.drop_zero, ← n5];simp
theorem Z9 (l : List (Int × Int)) (k : Nat) (af : k ≤ l.length) : ((bD l).drop (k * 2)).take ((l.drop k).length * 2) = bD (l.drop k) := by
 have e : bD l = bD (l.take k) ++ bD (l.drop k) := by rw [← qQ, ju]
 have aP : k * 2 = (bD (l.take k)).length := by rw [n5, dX, o7 af]
 rw [e, aP, List.drop_left, ← n5, List.take_length]
abbrev iD (v : Value) (l : List (Int × Int)) : bE := ⟨36, 2, v, l.length, bD l⟩
instance ai6 : mV ag 27 36 2 16 := ⟨by kernel_rfl⟩
def TD (M : List (Int × Int)) (lt : Int × Int → Int × Int → Bool) (C7 : ah) (K : Nat) (m : Nat) (R : aI) (aM : List (Nat × ah)) (bi : List (Nat × List AC)) : Prop :=
 ∃ (a b out : List (Int × Int)) (v : Value), m = a.length + b.length ∧ out ++ eU lt a b = M ∧ out.length + m = K ∧ R = bt 0 (iD v out) ∧ aM = [(0, gq a), (1, gq b), (2, C7), (7, aQ v)] ∧ bi = []
theorem Il {fx fy : Bool} {a b : List (Int × Int)} (aJ : a.length ≤ 100000) (ab : b.length ≤ 100000) :
  aH ag 136 [gq a, gq b, vH fx fy] (gq (eU (dN fx fy) a b)) := by
 refine bl (f := 136) Tryz.func136 rfl rfl rfl rfl ?_;refine pw ?_;(refine ba ?_);refine zb (l := 0) (c' := a.length + b.length) 0 rfl rfl rfl rfl (dx _) rfl rfl ?h2 (js (by omega)) rfl (fun v hv => ?_)
 case h2 => omega
 (refine ba ?_);refine jW 52 (TD (eU (dN fx fy) a b) (dN fx fy) (vH fx fy) (a.length + b.length)) (a.length + b.length) (bt 0 (iD v [])) _ _ ⟨a, b, [], v, rfl, rfl, je _, rfl, rfl, rfl⟩ (kI _ _ _) rfl ⟨rfl, rfl, rfl, rfl, trivial⟩ trivial rfl ?_;rintro m R aM bi ⟨a', bS, out, v, rfl, gw, fg, rfl, rfl, rfl⟩ cT;clear cT hv
 by_cases oa : 0 < a'.length
 ·by_cases ob : 0 < bS.length
  ·have Ri : (a'.length : Int) > 0 := by omega
   have aeI : (bS.length : Int) > 0 := by omega
   obtain ⟨⟨x, n⟩, a2, rfl⟩ := List.exists_cons_of_length_pos oa;obtain ⟨⟨y, m⟩, b2, rfl⟩ := List.exists_cons_of_length_pos ob;have iK : ((bD ((x, n) :: a2)).drop ((0 : Int).toNat * 2)).take 2 = [.c (.int .i64 x), .c (.int .i64 n)] := lV (j := 0) (i := 0) rfl rfl;have uk : ((bD ((y, m) :: b2)).drop ((0 : Int).toNat * 2)).take 2 = [.c (.int .i64 y), .c (.int .i64 m)] := lV (j := 0) (i := 0) rfl rfl;have aW := adq (x := y) (y := m) (z := x) (w := n) (l := fx) (d := fy) rfl;rw [show yg y m x n fx fy = dN fx fy (y, m) (x, n) from rfl] at aW;cases bb : dN fx fy (y, m) (x, n) with
   | true =>
    rw [bb] at aW;have aF : ((y, m) :: b2).length - (1 : Int).toNat = b2.length := rfl;have aP := On (y, m) b2
    have Gm : (out ++ [(y, m)]) ++ eU (dN fx fy) ((x, n) :: a2) b2 = eU (dN fx fy) a b := by
     rw [← gw, eU, if_pos bb, im]; rfl
    have GU : (out ++ [(y, m)]).length = out.length + 1 := cF;have nf : ((y, m) :: b2).length = b2.length + 1 := rfl;have YV : ((x, n) :: a2).length = a2.length + 1 := rfl;(repeat first | (with_reducible apply cQ (id := 3) [0,1,2,3,4,5,6,7]); kernel_rfl; kernel_rfl; rfl | (with_reducible apply cQ (id := 4) [0,1,2,3,6,7,4,5,8,9]); kernel_rfl; kernel_rfl; rfl | refine cu ?_ | (with_reducible apply gf); rfl; (repeat first | refine gP ?_ | refine fi ?_ | (with_reducible apply cg (c := true)); rfl; rfl; (exact bZ (by omega))); (with_reducible apply fL));refine n2 0 rfl rfl rfl rfl ?q1 ?q2 rfl rfl (fun v' bQ => ?_)
    case q1 => exact js (by show out.length + 1 ≤ 1000000; omega)
    case q2 => show (out.length + 1) * 16 ≤ 140737488355328; omega
    (refine ba ?_)
    have cr : iD v' (out ++ [(y, m)]) = ⟨36, 2, v', out.length + 1, bD out ++ [.c (.int .i64 y), .c (.int .i64 m)]⟩ := by
     unfold iD; rw [← Hw, cF]; rfl
    refine ⟨_, bt 0 (iD v' (out ++ [(y, m)])), _, _, ?_, ⟨(x, n) :: a2, b2, out ++ [(y, m)], v', rfl, Gm, ?_, rfl, rfl, rfl⟩, by rw [cr]; exact kI _ _ _, rfl, ⟨rfl, rfl, rfl, rfl, trivial⟩, trivial, rfl⟩
    ·omega
    ·omega
   | false =>
    rw [bb] at aW;have aF : ((x, n) :: a2).length - (1 : Int).toNat = a2.length := rfl;have aP := On (x, n) a2
    have Gm : (out ++ [(x, n)]) ++ eU (dN fx fy) a2 ((y, m) :: b2) = eU (dN fx fy) a b := by
     rw [← gw, eU, if_neg (by rw [bb]; decide), im]; rfl
    have GU : (out ++ [(x, n)]).length = out.length + 1 := cF;have nf : ((y, m) :: b2).length = b2.length + 1 := rfl;have YV : ((x, n) :: a2).length = a2.length + 1 := rfl;(repeat first | (with_reducible apply cQ (id := 3) [0,1,2,3,4,5,6,7]); kernel_rfl; kernel_rfl; rfl | (with_reducible apply cQ (id := 5) [0,1,2,3,6,7,4,5,8,9]); kernel_rfl; kernel_rfl; rfl | refine cu ?_ | (with_reducible apply gf); rfl; (repeat first | refine gP ?_ | refine fi ?_ | (with_reducible apply cg (c := true)); rfl; rfl; (exact bZ (by omega))); (with_reducible apply fL));refine n2 0 rfl rfl rfl rfl ?q1 ?q2 rfl rfl (fun v' bQ => ?_)
    case q1 => exact js (by show out.length + 1 ≤ 1000000; omega)
    case q2 => show (out.length + 1) * 16 ≤ 140737488355328; omega
    (refine ba ?_)
    have cr : iD v' (out ++ [(x, n)]) = ⟨36, 2, v', out.length + 1, bD out ++ [.c (.int .i64 x), .c (.int .i64 n)]⟩ := by
     unfold iD; rw [← Hw, cF]; rfl
    refine ⟨_, bt 0 (iD v' (out ++ [(x, n)])), _, _, ?_, ⟨a2, (y, m) :: b2, out ++ [(x, n)], v', rfl, Gm, ?_, rfl, rfl, rfl⟩, by rw [cr]; exact kI _ _ _, rfl, ⟨rfl, rfl, rfl, rfl, trivial⟩, trivial, rfl⟩
    ·omega
    ·omega
  ·have Ri : (a'.length : Int) > 0 := by omega
   have aeI : ¬ (bS.length : Int) > 0 := by omega
   have M9 : bS = [] := List.length_eq_zero_iff.1 (by omega);have aN : (a'.length : Int) = a'.length := rfl;(repeat first | refine cu ?_ | (with_reducible apply gf); rfl; (repeat first | refine gP ?_ | (with_reducible apply cg (c := true)); rfl; rfl; (exact bZ (by omega))); (with_reducible apply fL));refine n2 0 rfl rfl rfl rfl ?q1 ?q2 (vg _) rfl (fun v' bQ => ?_)
   case q1 => exact js (by show out.length + a'.length ≤ 1000000; omega)
   case q2 => show (out.length + a'.length) * 16 ≤ 140737488355328; omega
   (refine ba ?_);refine NK (k := (eU (dN fx fy) a b).length) (zs := bD (eU (dN fx fy) a b)) 0 rfl rfl rfl rfl ?p1 ?p2 ?p3 ?p4 (vg _) rfl ?_
   case p1 => exact js (by show (out.length + a'.length) + bS.length ≤ 1000000; omega)
   case p2 => show ((out.length + a'.length) + bS.length) * 16 ≤ 140737488355328; omega
   case p3 => show (out.length + a'.length) + bS.length = (eU (dN fx fy) a b).length; rw [HY]; omega
   case p4 => show (bD out ++ bD a') ++ bD bS = bD (eU (dN fx fy) a b); rw [← gw, M9, HZ, ← qQ, Om, p0]
   (refine ba ?_)
   ((refine bd rfl (a8 rfl aL) ?_))
   exact ah.aS.refl _
 ·have Ri : ¬ (a'.length : Int) > 0 := by omega
  have X2 : a' = [] := List.length_eq_zero_iff.1 (by omega);(repeat first | refine cu ?_ | (with_reducible apply gf); rfl; (repeat first | refine gP ?_ | (with_reducible apply cg (c := false)); rfl; rfl; (exact cp (by omega))); (with_reducible apply fL));refine n2 0 rfl rfl rfl rfl ?q1 ?q2 (vg _) rfl (fun v' bQ => ?_)
  case q1 => exact js (by show out.length + a'.length ≤ 1000000; omega)
  case q2 => show (out.length + a'.length) * 16 ≤ 140737488355328; omega
  (refine ba ?_);refine NK (k := (eU (dN fx fy) a b).length) (zs := bD (eU (dN fx fy) a b)) 0 rfl rfl rfl rfl ?p1 ?p2 ?p3 ?p4 (vg _) rfl ?_
  case p1 => exact js (by show (out.length + a'.length) + bS.length ≤ 1000000; omega)
  case p2 => show ((out.length + a'.length) + bS.length) * 16 ≤ 140737488355328; omega
  case p3 => show (out.length + a'.length) + bS.length = (eU (dN fx fy) a b).length; rw [HY]; omega
  case p4 => show (bD out ++ bD a') ++ bD bS = bD (eU (dN fx fy) a b); rw [← gw, X2, abC, Om, p0, ← qQ]
  (refine ba ?_)
  ((refine bd rfl (a8 rfl aL) ?_))
  exact ah.aS.refl _
theorem adm {fx fy : Bool} :
  ∀ (N : Nat) (l : List (Int × Int)), l.length ≤ N → N ≤ 100000 → aH ag 100 [gq l, vH fx fy] (gq (iH (dN fx fy) l)) := by
 intro N
 induction N with
 | zero =>
  intro l h1 h2;have nH := Il (fx := fx) (fy := fy) (a := l) (b := []) (by omega) (by simp);rw [HZ] at nH
  have aW : aH ag 136 [gq l, Jq, vH fx fy] (gq l) := QL nH rfl rfl (by
   intro i x y aa ai
   match i with
   | 0 => cases aa; cases ai; exact .refl _
   | 1 => cases aa; cases ai; exact nil_le 2
   | 2 => cases aa; cases ai; exact .refl _
   | i + 3 => simp at aa)
  have q1 : (l.length : Int) < 2 := by omega
  have e : iH (dN fx fy) l = l := by rw [iH, dif_pos (by omega)]
  rw [e];clear nH;refine bl (f := 100) Tryz.func100 rfl rfl rfl rfl ?_;(refine cc ?_)
  ((refine bd rfl (a8 rfl aL) ?_))
  exact ah.aS.refl _
 | succ N bI =>
  intro l h1 h2
  by_cases q : l.length < 2
  ·have nH := Il (fx := fx) (fy := fy) (a := l) (b := []) (by omega) (by simp);rw [HZ] at nH
   have aW : aH ag 136 [gq l, Jq, vH fx fy] (gq l) := QL nH rfl rfl (by
    intro i x y aa ai
    match i with
    | 0 => cases aa; cases ai; exact .refl _
    | 1 => cases aa; cases ai; exact nil_le 2
    | 2 => cases aa; cases ai; exact .refl _
    | i + 3 => simp at aa)
   have q1 : (l.length : Int) < 2 := by omega
   have e : iH (dN fx fy) l = l := by rw [iH, dif_pos (by omega)]
   rw [e];clear nH bI;refine bl (f := 100) Tryz.func100 rfl rfl rfl rfl ?_;(refine cc ?_)
   ((refine bd rfl (a8 rfl aL) ?_))
   exact ah.aS.refl _
  ·have q1 : ¬ (l.length : Int) < 2 := by omega
   have e : iH (dN fx fy) l = eU (dN fx fy) (iH (dN fx fy) (l.take (l.length / 2))) (iH (dN fx fy) (l.drop (l.length / 2))) := by rw [iH, dif_neg q]
   have aW := bI (l.take (l.length / 2)) (by simp; omega) (by omega);have bH := bI (l.drop (l.length / 2)) (by simp; omega) (by omega);have l1 := Ee (dN fx fy) _ (l.take (l.length / 2)) (dE _);have l2 := Ee (dN fx fy) _ (l.drop (l.length / 2)) (dE _);have eF := Il (fx := fx) (fy := fy) (a := iH (dN fx fy) (l.take (l.length / 2))) (b := iH (dN fx fy) (l.drop (l.length / 2))) (by rw [l1]; simp; omega) (by rw [l2]; simp; omega);have aR : ((l.length : Int) / 2).toNat = l.length / 2 := by omega
   have aF : ((l.length : Int) / 2).toNat - 0 = (l.take (l.length / 2)).length := by rw [aR]; simp; omega
   have aP := aab l (l.length / 2);have cr : ((l.length : Int)).toNat - ((l.length : Int) / 2).toNat = (l.drop (l.length / 2)).length := by rw [aR]; simp
   have ew := Z9 l (l.length / 2) (by omega);have lN : ((bD l).drop (((l.length : Int) / 2).toNat * 2)).take ((l.drop (l.length / 2)).length * 2) = bD (l.drop (l.length / 2)) := by rw [aR]; exact ew
   rw [e];clear bI l1 l2 e ew aR;refine bl (f := 100) Tryz.func100 rfl rfl rfl rfl ?_;(repeat first | (with_reducible apply yi); rfl | (with_reducible apply Kz); (iterate 3 rfl) | (with_reducible apply Fb); (iterate 4 rfl); (omega); (omega); (omega); (assumption); (assumption); rfl | (with_reducible apply Fc); (iterate 5 rfl); (omega); (omega); (omega); (omega); (assumption); (assumption); rfl | (with_reducible apply U7); (iterate 3 rfl); omega; omega; omega; rfl | refine E5 rfl rfl rfl rfl (by (first | exact aW | exact bH)) rfl ?_ | refine E6 rfl rfl rfl rfl rfl (by (exact eF)) rfl ?_ | (with_reducible apply KC); kernel_rfl | (with_reducible apply KU); kernel_rfl; kernel_rfl; rfl | (with_reducible first | apply KW | apply KL | apply KT | apply fL | apply KV | apply KX) | (with_reducible apply KO); rfl; (exact cp (by omega)))
   ((refine bd rfl (a8 rfl aL) ?_))
   exact ah.aS.refl _
theorem acN {a1 a2 b1 b2 k far : Int} {V : List aj} {D : List Int} (af : -9223372036854775808 ≤ k ∧ k ≤ 9223372036854775807) (fD : ∀ v ∈ V, uv v) (ak : V.length ≤ 1100) : aH ag 21 [jz V D, aZ a1 a2, aZ b1 b2, aE k, aE far] (bk (sX a1 a2 b1 b2 k far V)) := by
 obtain ⟨r, ap⟩ := Oh k;have bh := zQ ap;have fk := tO (x := a1) (y := a2) rfl;have j4 := tO (x := b1) (y := b2) rfl
 have h8 : ∀ g1 g2, b7 a1 a2 = g1 → b7 b1 b2 = g2 → (¬ k = (r : Int) ∨ (k = (r : Int) ∧ g1 = false) ∨ (k = (r : Int) ∧ g1 = true ∧ g2 = false) ∨ (k = (r : Int) ∧ g1 = true ∧ g2 = true ∧ far < 0) ∨ (k = (r : Int) ∧ g1 = true ∧ g2 = true ∧ ¬ far < 0 ∧ far > 268435456) ∨ (k = (r : Int) ∧ g1 = true ∧ g2 = true ∧ ¬ far < 0 ∧ ¬ far > 268435456 ∧ (V.length : Int) = 0)) → aH ag 21 [jz V D, aZ a1 a2, aZ b1 b2, aE k, aE far] (bk (sX a1 a2 b1 b2 k far V)) := fun g1 g2 aF aP cs => by
  have : sX a1 a2 b1 b2 k far V = false := by
   unfold sX preB;rw [aF, aP];rcases ap with ⟨az, h1⟩;rcases cs with q | ⟨q, rfl⟩ | ⟨q, rfl, rfl⟩ | ⟨q, rfl, rfl, q2⟩ | ⟨q, rfl, rfl, q2, bR⟩ | ⟨q, rfl, rfl, q2, bR, dD⟩
   ·rw [cp (show ¬ (0 ≤ k ∧ k ≤ 28) by omega)]; simp
   ·simp
   ·simp
   ·rw [cp (show ¬ 0 ≤ far by omega)]; simp
   ·rw [cp (show ¬ far ≤ 268435456 by omega)]; simp
   ·rw [bZ (show V.length = 0 by omega)]; simp
  rw [this];exact aeK bh (by rw [← aF]; exact fk) (by rw [← aP]; exact j4) cs
 by_cases q1 : k = (r : Int)
 ·cases g1 : b7 a1 a2 with
  | false => exact h8 _ _ g1 rfl (.inr (.inl ⟨q1, rfl⟩))
  | true =>
   cases g2 : b7 b1 b2 with
   | false => exact h8 _ _ g1 g2 (.inr (.inr (.inl ⟨q1, rfl, rfl⟩)))
   | true =>
    by_cases q2 : far < 0
    ·exact h8 _ _ g1 g2 (.inr (.inr (.inr (.inl ⟨q1, rfl, rfl, q2⟩))))
    ·by_cases bR : far > 268435456
     ·exact h8 _ _ g1 g2 (.inr (.inr (.inr (.inr (.inl ⟨q1, rfl, rfl, q2, bR⟩)))))
     ·by_cases dD : (V.length : Int) = 0
      ·exact h8 _ _ g1 g2 (.inr (.inr (.inr (.inr (.inr ⟨q1, rfl, rfl, q2, bR, dD⟩)))))
      ·subst q1;have := aeL (D := D) (V := V) (far := far) ap.1 g1 g2 (by omega) (by omega) (by omega) fD ak
       have e : preB a1 a2 b1 b2 (r : Int) far V.length = true := by
        unfold preB;have ait := ap.1;rw [g1, g2, bZ (show 0 ≤ (r : Int) ∧ (r : Int) ≤ 28 by omega), bZ (show 0 ≤ far by omega), bZ (show far ≤ 268435456 by omega), cp (show ¬ V.length = 0 by omega)]; rfl
       unfold sX;rw [e, l8];exact this
 ·exact h8 _ _ rfl rfl (.inl q1)
section
variable {P : Program} {bw : eZ} {s : aC} {ops : Array Oper} {dr : Option (List Nat)} {ty d : Nat} {pos : String} {after : Array Edge} {guard : Option (Nat × Bool)} {K : aC → Prop} {rest : List Oper}
theorem Fa {tt z n l lo hi : Nat} {v u : Value} {x y : Operand} [S : hP P tt z] (hw : want ops ⟨some d, .slice tt x (some y) none none, ty, pos, after, guard⟩ s = some true) (aa : s.look x = some (aQ u)) (ai : s.look y = some (aE (l : Int))) (hu : iN v z lo hi u) (hm : hi - lo = n) (h1 : l ≤ n) (hd : Nat.blt d s.n = true) (h : bc P ops K rest (s.put (some d) (aQ (hb u z l n)))) : bc P ops K (⟨some d, .slice tt x (some y) none none, ty, pos, after, guard⟩ :: rest) s := by
 subst hm;obtain ⟨⟨A, c, rfl⟩, _⟩ := hu;refine fS (av := aQ (hb (.slice A (hi - lo) c) z l (hi - lo))) hw ⟨fun _ _ h => (by cases h), fun q an => ?_, fun U ad W env he => ?_, fun j ae => absurd ae (ja _ j)⟩ hd h
 ·simp [Op.operands] at an;rcases an with rfl | rfl
  ·exact ⟨_, aa⟩
  ·exact ⟨_, ai⟩
 ·have ex : env x = .slice A (hi - lo) c := (he x (by simp [Op.operands]) _ aa).1;have jm : env y = .int .i64 (l : Int) := (he y (by simp [Op.operands]) _ ai).1;obtain ⟨bo, fs, hu, c4, hs⟩ := mN S.h;have e4 : P.underlying tt = some (.slice (P.elem tt)) := by rw [kr hu]; exact hu
  refine ⟨hb (.slice A (hi - lo) c) z l (hi - lo), ?_, rfl, rfl⟩;simp only [execOp, ex, ha, sr, jm, Sem.run_bind, run_sliceAt_slice W tt _ _ _ _ e4, run_slice_l W tt A (hi - lo) c e4 .i64 l (by omega) (by omega), kr hu, hK c4, Result.andThen_ok, hs, Sem.run_pure, kH, hb]
theorem U8 {tt z n l lo hi : Nat} {v u : Value} {x y : Operand} [S : hP P tt z] (hw : want ops ⟨some d, .slice tt x none (some y) none, ty, pos, after, guard⟩ s = some true) (aa : s.look x = some (aQ u)) (ai : s.look y = some (aE (l : Int))) (hu : iN v z lo hi u) (hm : hi - lo = n) (h1 : l ≤ n) (hd : Nat.blt d s.n = true) (h : bc P ops K rest (s.put (some d) (aQ (hb u z 0 l)))) : bc P ops K (⟨some d, .slice tt x none (some y) none, ty, pos, after, guard⟩ :: rest) s := by
 subst hm;obtain ⟨⟨A, c, rfl⟩, al⟩ := hu
 have GV : l ≤ c := by
  rcases vu l with e | e
  ·omega
  ·have aR := al (show lo < hi by omega);obtain ⟨g, n', c', g1, g2, g3⟩ := aR;have ew : c = c' - lo := by injection g3
   clear g1 g3 al;omega
 refine fS (av := aQ (hb (.slice A (hi - lo) c) z 0 l)) hw ⟨fun _ _ h => (by cases h), fun q an => ?_, fun U ad W env he => ?_, fun j ae => absurd ae (ja _ j)⟩ hd h
 ·simp [Op.operands] at an;rcases an with rfl | rfl
  ·exact ⟨_, aa⟩
  ·exact ⟨_, ai⟩
 ·have ex : env x = .slice A (hi - lo) c := (he x (by simp [Op.operands]) _ aa).1;have jm : env y = .int .i64 (l : Int) := (he y (by simp [Op.operands]) _ ai).1;obtain ⟨bo, fs, hu, c4, hs⟩ := mN S.h;have e4 : P.underlying tt = some (.slice (P.elem tt)) := by rw [kr hu]; exact hu
  refine ⟨hb (.slice A (hi - lo) c) z 0 l, ?_, rfl, rfl⟩;simp only [execOp, ex, ha, sr, jm, Sem.run_bind, run_sliceAt_slice W tt _ _ _ _ e4, run_slice_h W tt A (hi - lo) c e4 .i64 l (by omega) (by omega), kr hu, hK c4, Result.andThen_ok, hs, Sem.run_pure, kH, hb]
end
theorem Jd {A C Kc : List AC} {n : Nat} (h : A.length = n) : eD (A ++ Kc) n C = (A ++ C) ++ Kc.drop C.length := by
 subst h;unfold eD;rw [List.take_left, List.drop_append, tW (by omega), List.nil_append, Nat.add_sub_cancel_left]
theorem Oo {l : List aj} {n : Nat} (h : l.length = n) : (bD l).take (n * 2) = bD l := gn (by rw [n5]; omega)
theorem N9 {l : List Int} {n : Nat} (h : l.length = n) : (ck l).take (n * 1) = ck l := gn (by simp [ck]; omega)
theorem N8 (l : List Int) : (ck l).all AC.aY = true := b6.2 fun y ai => by
 obtain ⟨x, _, rfl⟩ := gm.1 ai;rfl
theorem CM (l : List Int) : (ck l).length = l.length * 1 := by simp [ck]
abbrev D0 (LL : List (List aj)) : List AC := LL.map fun l => AC.p (bX 2 l.length (bD l))
abbrev Er (LL : List (List aj)) : ah := cM 1 LL.length (D0 LL)
theorem RM {LL : List (List aj)} {j : Int} {i : Nat} {l : List aj} (ae : j = i) (h : LL[i]? = some l) : ((D0 LL).drop (j.toNat * 1)).take 1 = [.p (bX 2 l.length (bD l))] := by
 subst ae;have hi := (bA.1 h).1;rw [kH, Nat.mul_one, mG (by simpa [D0] using hi)];have : LL[i] = l := (bA.1 h).2;simp [D0, this]
def hW (LL : List (List aj)) (i : Nat) : List aj := (LL.take i).flatten
theorem Q4 {LL : List (List aj)} {i : Nat} {l : List aj} (h : LL[i]? = some l) : hW LL (i + 1) = hW LL i ++ l := by
 unfold hW;rw [jT (bA.1 h).1, (bA.1 h).2]; simp
theorem Q2 {LL : List (List aj)} {i : Nat} (h : LL.length ≤ i) : hW LL i = LL.flatten := by unfold hW; rw [gn h]
theorem Q3 (LL : List (List aj)) (i : Nat) : (hW LL i).length ≤ LL.flatten.length := by
 have : LL.flatten = hW LL i ++ (LL.drop i).flatten := by unfold hW; rw [← List.flatten_append, ju]
 rw [this, cF]; omega
def Tw (LL : List (List aj)) (n : Nat) (R : aI) (aM : List (Nat × ah)) (bi : List (Nat × List AC)) : Prop :=
 ∃ (i : Nat) (ii lX : Int), i ≤ LL.length ∧ n = LL.length - i ∧ ii = i ∧ lX = ((hW LL i).length : Nat) ∧ R = gh ∧ bi = [] ∧ aM = [(0, Er LL), (3, aE lX), (10, Er LL), (11, aE LL.length), (12, aE ii)]
def Tx (LL : List (List aj)) (N : Nat) (v : Value) (fo : List AC) (n : Nat) (R : aI) (aM : List (Nat × ah)) (bi : List (Nat × List AC)) : Prop :=
 ∃ (i : Nat) (ii : Int) (u : Value), i ≤ LL.length ∧ n = LL.length - i ∧ ii = i ∧ iN v 2 (hW LL i).length N u ∧ R = bt 0 ⟨36, 2, v, N, bD (hW LL i) ++ fo.drop ((hW LL i).length * 2)⟩ ∧ bi = [] ∧ aM = [(6, aQ v), (7, aQ u), (24, Er LL), (25, aE LL.length), (26, aE ii)]
theorem Qs {LL : List (List aj)} (iQ : LL.length ≤ 1100) (ey : LL.flatten.length ≤ 100000) : aH ag 106 [Er LL] (gq LL.flatten) := by
 refine bl (f := 106) Tryz.func106 rfl rfl rfl rfl ?_;refine pw ?_;(refine ba ?_);refine jW 37 (Tw LL) LL.length gh _ [] ⟨0, 0, 0, dx _, rfl, rfl, rfl, rfl, rfl, rfl⟩ (bz.refl _) rfl ⟨rfl, rfl, rfl, rfl, rfl, trivial⟩ trivial rfl ?_;rintro n R aM bi ⟨i, ii, lX, hi, rfl, fp, y3, rfl, rfl, rfl⟩ cT;clear cT
 by_cases an : i < LL.length
 ·have q2 : ii < (LL.length : Int) := by omega
  have bR : 0 ≤ ii := by omega
  obtain ⟨l, g1⟩ : ∃ l, LL[i]? = some l := ⟨_, bJ an⟩;have iK := RM fp g1;have h1 := Q4 g1;have h2 := Q3 LL (i + 1);have ao : (hW LL (i + 1)).length = (hW LL i).length + l.length := by rw [h1, cF]
  (refine ba ?_);exact ⟨LL.length - (i + 1), gh, _, [], by omega, ⟨i + 1, ii + 1, _, by omega, rfl, by omega, by omega, rfl, rfl, rfl⟩, bz.refl _, rfl, ⟨rfl, rfl, rfl, rfl, rfl, trivial⟩, trivial, rfl⟩
 ·have q2 : ¬ ii < (LL.length : Int) := by omega
  rw [Q2 (by omega)] at y3;subst y3;generalize yI : LL.flatten.length = N at *;(refine ba ?_);refine zb (l := N) (c' := N) 0 rfl rfl rfl rfl (dE _) rfl rfl ?h2 (js (by omega)) rfl (fun v hv => ?_)
  case h2 => show 16 * N ≤ 281474976710656; omega
  generalize dQ : h4 N 2 _ = fo;have B5 : fo.length = N * 2 := by rw [← dQ]; simp [h4]
  clear dQ;(refine ba ?_);refine I1 0 (r := ⟨36, 2, v, N, fo⟩) rfl (fun eY c iW eO iS ec hlen => ?_);have nk : v = .slice eY N c := iW;have r1 : iN v 2 0 N v := by rw [nk]; exact iN.all 2 eO ec
  clear iW eO iS ec hlen;refine jW 37 (Tx LL N v fo) LL.length (bt 0 ⟨36, 2, v, N, fo⟩) _ [] ⟨0, 0, v, dx _, rfl, rfl, r1, rfl, rfl, rfl⟩ (kI _ _ _) rfl ⟨rfl, rfl, rfl, rfl, rfl, trivial⟩ trivial rfl ?_;clear an q2 r1 fp nk;rintro n R aM bi ⟨i, ii, u, hi, rfl, fp, hu, rfl, rfl, rfl⟩ cT;clear cT
  by_cases an : i < LL.length
  ·have q2 : ii < (LL.length : Int) := by omega
   have bR : 0 ≤ ii := by omega
   obtain ⟨l, g1⟩ : ∃ l, LL[i]? = some l := ⟨_, bJ an⟩;have iK := RM fp g1;have h1 := Q4 g1;have h2 := Q3 LL (i + 1);have ao : (hW LL (i + 1)).length = (hW LL i).length + l.length := by rw [h1, cF]
   rw [yI] at h2;have c1 := vg l;have bn : Nat.min l.length (N - (hW LL i).length) = l.length := o7 (by omega);obtain ⟨m, hm⟩ : ∃ m, N - (hW LL i).length = m := ⟨_, rfl⟩;have b1 : (hW LL i).length ≤ N := by omega
   have b2 : l.length ≤ m := by omega
   have s1 : eD (bD (hW LL i) ++ fo.drop ((hW LL i).length * 2)) ((hW LL i).length * 2) ((bD l).take (l.length * 2)) = bD (hW LL (i + 1)) ++ fo.drop ((hW LL (i + 1)).length * 2) := by
    rw [Oo rfl, Jd (n5 _), ← qQ, ← h1, re, n5];congr 2;omega
   have e4 := hu.sl hm b2 b1;rw [← ao] at e4;(repeat first | refine cu ?_ | (with_reducible apply gf); rfl; (repeat first | refine gP ?_ | (with_reducible apply Fa); (iterate 3 rfl); assumption; (assumption); (assumption); rfl); (with_reducible apply fL) | (with_reducible apply NL 0); (iterate 3 rfl); assumption; rfl; rfl; rfl; (assumption); (exact dE _); (assumption); rfl; assumption; assumption; rfl);exact ⟨LL.length - (i + 1), _, _, [], by omega, ⟨i + 1, ii + 1, _, by omega, rfl, by omega, e4, rfl, rfl, rfl⟩, kI _ _ _, rfl, ⟨rfl, rfl, rfl, rfl, rfl, trivial⟩, trivial, rfl⟩
  ·have q2 : ¬ ii < (LL.length : Int) := by omega
   have cq : bD (hW LL i) ++ fo.drop ((hW LL i).length * 2) = bD LL.flatten := by
    rw [Q2 (by omega), tW (by omega), p0]
   rw [cq];refine Af 0 6 ⟨36, 2, v, N, bD LL.flatten⟩ rfl rfl ?_;rw [← yI];(refine ba ?_)
   ((refine bd rfl (a8 rfl aL) ?_))
   exact ah.aS.refl _
abbrev D1 (LL : List (List Int)) : List AC := LL.map fun l => AC.p (bX 1 l.length (ck l))
abbrev Eo (LL : List (List Int)) : ah := cM 1 LL.length (D1 LL)
theorem RN {LL : List (List Int)} {j : Int} {i : Nat} {l : List Int} (ae : j = i) (h : LL[i]? = some l) : ((D1 LL).drop (j.toNat * 1)).take 1 = [.p (bX 1 l.length (ck l))] := by
 subst ae;have hi := (bA.1 h).1;rw [kH, Nat.mul_one, mG (by simpa [D1] using hi)];have : LL[i] = l := (bA.1 h).2;simp [D1, this]
def hV (LL : List (List Int)) (i : Nat) : List Int := (LL.take i).flatten
theorem Q1 {LL : List (List Int)} {i : Nat} {l : List Int} (h : LL[i]? = some l) : hV LL (i + 1) = hV LL i ++ l := by
 unfold hV;rw [jT (bA.1 h).1, (bA.1 h).2]; simp
theorem QZ {LL : List (List Int)} {i : Nat} (h : LL.length ≤ i) : hV LL i = LL.flatten := by unfold hV; rw [gn h]
theorem Q0 (LL : List (List Int)) (i : Nat) : (hV LL i).length ≤ LL.flatten.length := by
 have : LL.flatten = hV LL i ++ (LL.drop i).flatten := by unfold hV; rw [← List.flatten_append, ju]
 rw [this, cF]; omega
def Tu (LL : List (List Int)) (n : Nat) (R : aI) (aM : List (Nat × ah)) (bi : List (Nat × List AC)) : Prop :=
 ∃ (i : Nat) (ii lX : Int), i ≤ LL.length ∧ n = LL.length - i ∧ ii = i ∧ lX = ((hV LL i).length : Nat) ∧ R = gh ∧ bi = [] ∧ aM = [(0, Eo LL), (3, aE lX), (10, Eo LL), (11, aE LL.length), (12, aE ii)]
def Tv (LL : List (List Int)) (N : Nat) (v : Value) (fo : List AC) (n : Nat) (R : aI) (aM : List (Nat × ah)) (bi : List (Nat × List AC)) : Prop :=
 ∃ (i : Nat) (ii : Int) (u : Value), i ≤ LL.length ∧ n = LL.length - i ∧ ii = i ∧ iN v 1 (hV LL i).length N u ∧ R = bt 0 ⟨3, 1, v, N, ck (hV LL i) ++ fo.drop ((hV LL i).length * 1)⟩ ∧ bi = [] ∧ aM = [(6, aQ v), (7, aQ u), (24, Eo LL), (25, aE LL.length), (26, aE ii)]
theorem Qr {LL : List (List Int)} (iQ : LL.length ≤ 1100) (ey : LL.flatten.length ≤ 100000) : aH ag 107 [Eo LL] (ol LL.flatten) := by
 refine bl (f := 107) Tryz.func107 rfl rfl rfl rfl ?_;refine pw ?_;(refine ba ?_);refine jW 37 (Tu LL) LL.length gh _ [] ⟨0, 0, 0, dx _, rfl, rfl, rfl, rfl, rfl, rfl⟩ (bz.refl _) rfl ⟨rfl, rfl, rfl, rfl, rfl, trivial⟩ trivial rfl ?_;rintro n R aM bi ⟨i, ii, lX, hi, rfl, fp, y3, rfl, rfl, rfl⟩ cT;clear cT
 by_cases an : i < LL.length
 ·have q2 : ii < (LL.length : Int) := by omega
  have bR : 0 ≤ ii := by omega
  obtain ⟨l, g1⟩ : ∃ l, LL[i]? = some l := ⟨_, bJ an⟩;have iK := RN fp g1;have h1 := Q1 g1;have h2 := Q0 LL (i + 1);have ao : (hV LL (i + 1)).length = (hV LL i).length + l.length := by rw [h1, cF]
  (refine ba ?_);exact ⟨LL.length - (i + 1), gh, _, [], by omega, ⟨i + 1, ii + 1, _, by omega, rfl, by omega, by omega, rfl, rfl, rfl⟩, bz.refl _, rfl, ⟨rfl, rfl, rfl, rfl, rfl, trivial⟩, trivial, rfl⟩
 ·have q2 : ¬ ii < (LL.length : Int) := by omega
  rw [QZ (by omega)] at y3;subst y3;generalize yI : LL.flatten.length = N at *;(refine ba ?_);refine zb (l := N) (c' := N) 0 rfl rfl rfl rfl (dE _) rfl rfl ?h2 (js (by omega)) rfl (fun v hv => ?_)
  case h2 => show 8 * N ≤ 281474976710656; omega
  generalize dQ : h4 N 1 _ = fo;have B5 : fo.length = N * 1 := by rw [← dQ]; simp [h4]
  clear dQ;(refine ba ?_);refine I1 0 (r := ⟨3, 1, v, N, fo⟩) rfl (fun eY c iW eO iS ec hlen => ?_);have nk : v = .slice eY N c := iW;have r1 : iN v 1 0 N v := by rw [nk]; exact iN.all 1 eO ec
  clear iW eO iS ec hlen;refine jW 37 (Tv LL N v fo) LL.length (bt 0 ⟨3, 1, v, N, fo⟩) _ [] ⟨0, 0, v, dx _, rfl, rfl, r1, rfl, rfl, rfl⟩ (kI _ _ _) rfl ⟨rfl, rfl, rfl, rfl, rfl, trivial⟩ trivial rfl ?_;clear an q2 r1 fp nk;rintro n R aM bi ⟨i, ii, u, hi, rfl, fp, hu, rfl, rfl, rfl⟩ cT;clear cT
  by_cases an : i < LL.length
  ·have q2 : ii < (LL.length : Int) := by omega
   have bR : 0 ≤ ii := by omega
   obtain ⟨l, g1⟩ : ∃ l, LL[i]? = some l := ⟨_, bJ an⟩;have iK := RN fp g1;have h1 := Q1 g1;have h2 := Q0 LL (i + 1);have ao : (hV LL (i + 1)).length = (hV LL i).length + l.length := by rw [h1, cF]
   rw [yI] at h2;have c1 := N8 l;have bn : Nat.min l.length (N - (hV LL i).length) = l.length := o7 (by omega);obtain ⟨m, hm⟩ : ∃ m, N - (hV LL i).length = m := ⟨_, rfl⟩;have b1 : (hV LL i).length ≤ N := by omega
   have b2 : l.length ≤ m := by omega
   have s1 : eD (ck (hV LL i) ++ fo.drop ((hV LL i).length * 1)) ((hV LL i).length * 1) ((ck l).take (l.length * 1)) = ck (hV LL (i + 1)) ++ fo.drop ((hV LL (i + 1)).length * 1) := by
    rw [N9 rfl, Jd (CM _), ← CL, ← h1, re, CM];congr 2;omega
   have e4 := hu.sl hm b2 b1;rw [← ao] at e4;(repeat first | refine cu ?_ | (with_reducible apply gf); rfl; (repeat first | refine gP ?_ | (with_reducible apply Fa); (iterate 3 rfl); assumption; (assumption); (assumption); rfl); (with_reducible apply fL) | (with_reducible apply NL 0); (iterate 3 rfl); assumption; rfl; rfl; rfl; (assumption); (exact dE _); (assumption); rfl; assumption; assumption; rfl);exact ⟨LL.length - (i + 1), _, _, [], by omega, ⟨i + 1, ii + 1, _, by omega, rfl, by omega, e4, rfl, rfl, rfl⟩, kI _ _ _, rfl, ⟨rfl, rfl, rfl, rfl, rfl, trivial⟩, trivial, rfl⟩
  ·have q2 : ¬ ii < (LL.length : Int) := by omega
   have cq : ck (hV LL i) ++ fo.drop ((hV LL i).length * 1) = ck LL.flatten := by
    rw [QZ (by omega), tW (by omega), p0]
   rw [cq];refine Af 0 6 ⟨3, 1, v, N, ck LL.flatten⟩ rfl rfl ?_;rw [← yI];(refine ba ?_)
   ((refine bd rfl (a8 rfl aL) ?_))
   exact ah.aS.refl _
end Go.Proofs.YtbcecodakfejaaaGreat
