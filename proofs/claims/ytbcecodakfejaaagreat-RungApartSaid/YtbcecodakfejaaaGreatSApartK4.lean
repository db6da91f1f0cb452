/-
  My own texts, without what this claim does not need. My own text.
-/
import Derived.Laws.AppendOwn
import Derived.Laws.MakeOwn
import Derived.Laws.Slices
import Derived.Test.YtbcecodakfejaaaGreatSApartK3
set_option maxRecDepth 100000
set_option maxHeartbeats 64000000
set_option linter.unusedVariables false
set_option linter.unusedSimpArgs false
set_option linter.unusedSectionVars false
namespace Go.Proofs.YtbcecodakfejaaaGreat
def b7 (x y : Int) : Bool := decide (x ≤ 134217728) && decide (y ≤ 134217728) && decide (-134217728 ≤ x) && decide (-134217728 ≤ y)
theorem oL {x y : Int} : b7 x y = true ↔ (-134217728 ≤ x ∧ x ≤ 134217728) ∧ -134217728 ≤ y ∧ y ≤ 134217728 := by
  unfold b7;simp only [dx, ca];omega
def di (a1 a2 b1 b2 : Int) : Prop := a1 < b1 ∨ (a1 = b1 ∧ a2 ≤ b2)
instance (a1 a2 b1 b2 : Int) : Decidable (di a1 a2 b1 b2) := by unfold di; exact inferInstance
theorem di.H6 {a1 a2 : Int} : di a1 a2 a1 a2 := .inr ⟨rfl, nM _⟩
theorem di.trans {a1 a2 b1 b2 c1 c2 : Int} (h : di a1 a2 b1 b2) (k : di b1 b2 c1 c2) : di a1 a2 c1 c2 := by unfold di at *; omega
theorem di.total (a1 a2 b1 b2 : Int) : di a1 a2 b1 b2 ∨ di b1 b2 a1 a2 := by unfold di; omega
theorem di.AU {a1 a2 b1 b2 : Int} (h : di a1 a2 b1 b2) (k : di b1 b2 a1 a2) : a1 = b1 ∧ a2 = b2 := by unfold di at *; omega
def rM (p1 p2 a1 a2 b1 b2 : Int) : Prop := gz a1 b1 ≤ p1 ∧ p1 ≤ gy a1 b1 ∧ gz a2 b2 ≤ p2 ∧ p2 ≤ gy a2 b2
theorem Kg {s1 s2 t1 t2 p1 p2 : Int} (iP : di s1 s2 t1 t2) (aj : bV s1 s2 t1 t2 p1 p2 = 0) : rM p1 p2 s1 s2 t1 t2 ↔ di s1 s2 p1 p2 ∧ di p1 p2 t1 t2 := by
  unfold bV at aj;have sU : (t1 - s1) * (p2 - s2) = (t2 - s2) * (p1 - s1) := by omega
  unfold rM gz gy di at *
  by_cases h1 : s1 = t1
  · subst h1
    have e : (t2 - s2) * (p1 - s1) = 0 := by rw [← sU]; simp
    rcases r3.1 e with e | e
    · constructor
      · intro h; split at h <;> (try split at h) <;> (try split at h) <;> (try split at h) <;> omega
      · intro h; split <;> (try split) <;> (try split) <;> (try split) <;> omega
    · constructor
      · intro h; split at h <;> (try split at h) <;> (try split at h) <;> (try split at h) <;> omega
      · intro h; split <;> (try split) <;> (try split) <;> (try split) <;> omega
  · have h2 : s1 < t1 := by omega
    have hd : 0 < t1 - s1 := by omega
    rw [if_neg (show ¬ t1 < s1 by omega), if_pos (show t1 > s1 by omega)]
   
    have key : s1 ≤ p1 → p1 ≤ t1 → (if t2 < s2 then t2 else s2) ≤ p2 ∧ p2 ≤ (if t2 > s2 then t2 else s2) := by
      intro bd bC
      by_cases g : t2 < s2
      · rw [if_pos g, if_neg (by omega)]
        have a1 : (t2 - s2) * (t1 - s1) ≤ (t2 - s2) * (p1 - s1) := Int.mul_le_mul_of_nonpos_left (by omega) (by omega);have a2 : (t2 - s2) * (p1 - s1) ≤ 0 := Int.mul_nonpos_of_nonpos_of_nonneg (by omega) (by omega);rw [← sU] at a1 a2;rw [gR (t2 - s2)] at a1;have b1 := Int.le_of_mul_le_mul_left a1 hd
        have b2 : p2 - s2 ≤ 0 := by
          have : (t1 - s1) * (p2 - s2) ≤ (t1 - s1) * 0 := by omega
          exact Int.le_of_mul_le_mul_left this hd
        omega
      · rw [if_neg g]
        have a1 : (t2 - s2) * (p1 - s1) ≤ (t2 - s2) * (t1 - s1) := pJ (by omega) (by omega);have a2 : 0 ≤ (t2 - s2) * (p1 - s1) := fD (by omega) (by omega);rw [← sU] at a1 a2;rw [gR (t2 - s2)] at a1;have b1 := Int.le_of_mul_le_mul_left a1 hd
        have b2 : 0 ≤ p2 - s2 := by
          have : (t1 - s1) * 0 ≤ (t1 - s1) * (p2 - s2) := by omega
          exact Int.le_of_mul_le_mul_left this hd
        split <;> omega
    constructor
    · rintro ⟨bd, bC, ez, jz⟩
      constructor
      · by_cases g : s1 < p1
        · exact .inl g
        · right
          have : p1 = s1 := by omega
          subst this;have : (t1 - p1) * (p2 - s2) = 0 := by rw [sU]; simp
          rcases r3.1 this with e | e <;> omega
      · by_cases g : p1 < t1
        · exact .inl g
        · right
          have : p1 = t1 := by omega
          subst this;rw [gR (t2 - s2)] at sU;have := Int.eq_of_mul_eq_mul_left (show p1 - s1 ≠ 0 by omega) sU;omega
    · rintro ⟨bd, bC⟩
      have GW : s1 ≤ p1 := by omega
      have GX : p1 ≤ t1 := by omega
      exact ⟨GW, GX, (key GW GX).1, (key GW GX).2⟩
def dh (p1 p2 s1 s2 t1 t2 : Int) : Prop := bV s1 s2 t1 t2 p1 p2 = 0 ∧ rM p1 p2 s1 s2 t1 t2
theorem u2 {s1 s2 t1 t2 p1 p2 : Int} (iP : di s1 s2 t1 t2) : dh p1 p2 s1 s2 t1 t2 ↔ bV s1 s2 t1 t2 p1 p2 = 0 ∧ di s1 s2 p1 p2 ∧ di p1 p2 t1 t2 := by
  unfold dh
  constructor
  · rintro ⟨h, k⟩; exact ⟨h, (Kg iP h).1 k⟩
  · rintro ⟨h, k⟩; exact ⟨h, (Kg iP h).2 k⟩
theorem EV (a1 a2 b1 b2 : Int) : bV a1 a2 b1 b2 a1 a2 = 0 := by unfold bV; grind
theorem KP (a1 a2 b1 b2 : Int) : bV a1 a2 b1 b2 b1 b2 = 0 := by unfold bV; grind
theorem tl {s1 s2 t1 t2 : Int} (iP : di s1 s2 t1 t2) : dh s1 s2 s1 s2 t1 t2 := (u2 iP).2 ⟨EV .., .H6, iP⟩
theorem tk {s1 s2 t1 t2 : Int} (iP : di s1 s2 t1 t2) : dh t1 t2 s1 s2 t1 t2 := (u2 iP).2 ⟨KP .., iP, .H6⟩
theorem zp {p1 p2 s1 s2 : Int} (h : dh p1 p2 s1 s2 s1 s2) : p1 = s1 ∧ p2 = s2 := by
  obtain ⟨_, h1, h2⟩ := (u2 di.H6).1 h;have := di.AU h1 h2; omega
def oE (s1 s2 bM bN t1 t2 t3 t4 : Int) : Int := (bM - s1) * (t4 - t2) - (bN - s2) * (t3 - t1)
theorem tn {s1 s2 bM bN t1 t2 t3 t4 p1 p2 b9 cT : Int} (hs : di s1 s2 bM bN) (ax : di t1 t2 t3 t4) (hw : oE s1 s2 bM bN t1 t2 t3 t4 = 0)
    (ps : dh p1 p2 s1 s2 bM bN) (oG : dh p1 p2 t1 t2 t3 t4) (r8 : dh b9 cT s1 s2 bM bN) (gn : di t1 t2 b9 cT) (adI : di b9 cT t3 t4) : dh b9 cT t1 t2 t3 t4 := by
  by_cases hd : s1 = bM ∧ s2 = bN
  · obtain ⟨rfl, rfl⟩ := hd
    obtain ⟨rfl, rfl⟩ := zp ps;obtain ⟨rfl, rfl⟩ := zp r8;exact oG
  · refine (u2 ax).2 ⟨?_, gn, adI⟩
    have a := ps.1;have b := oG.1;have c := r8.1;unfold bV oE at *;have d1 : (bM - s1) * ((t3 - t1) * (cT - t2) - (t4 - t2) * (b9 - t1)) = 0 := by grind
    have d2 : (bN - s2) * ((t3 - t1) * (cT - t2) - (t4 - t2) * (b9 - t1)) = 0 := by grind
    rcases r3.1 d1 with e | e
    · rcases r3.1 d2 with f | f
      · omega
      · exact f
    · exact e
theorem Kh {x y A B D : Int} (ey : 0 < D) (e : D = A - B) : (gz x y * D ≤ y * A - x * B ∧ y * A - x * B ≤ gy x y * D) ↔ (x = y ∨ (B ≤ 0 ∧ 0 ≤ A)) := by
  subst e;unfold gz gy
  by_cases h : x = y
  · subst h
    have : x * (A - B) = x * A - x * B := Int.mul_sub ..;simp [this]
  · have pos : ∀ {u v : Int}, 0 < u → (0 ≤ u * v ↔ 0 ≤ v) := by
      intro u v hu
      constructor
      · intro k
        have k' : u * 0 ≤ u * v := by omega
        exact Int.le_of_mul_le_mul_left k' hu
      · intro k; exact fD (by omega) k
    by_cases g : x < y
    · rw [if_neg (by omega), if_pos (show y > x from g)]
      have hu : 0 < y - x := by omega
      have aF : y * A - x * B - x * (A - B) = (y - x) * A := by grind
      have aN : y * (A - B) - (y * A - x * B) = (y - x) * (-B) := by grind
      have p1 := pos (v := A) hu;have p2 := pos (v := -B) hu;omega
    · rw [if_pos (by omega), if_neg (by omega)]
      have hu : 0 < x - y := by omega
      have aF : x * (A - B) - (y * A - x * B) = (x - y) * A := by grind
      have aN : y * A - x * B - y * (A - B) = (x - y) * (-B) := by grind
      have p1 := pos (v := A) hu;have p2 := pos (v := -B) hu;omega
def kA (n d a b : Int) : Prop := gz a b * d ≤ n ∧ n ≤ gy a b * d
theorem A6 {x y u v A B D : Int} (ey : 0 < D) (e : D = A - B) (bX : ¬ (x = y ∧ u = v)) : (kA (y * A - x * B) D x y ∧ kA (v * A - u * B) D u v) ↔ (B ≤ 0 ∧ 0 ≤ A) := by
  unfold kA;rw [Kh ey e, Kh ey e];omega
theorem re {n d a b : Int} : kA n d a b ↔ kA n d b a := by
  unfold kA gz gy
  by_cases h : a = b
  · subst h; rfl
  · by_cases g : a < b
    · rw [if_neg (by omega), if_pos (show b > a from g), if_pos g, if_neg (by omega)]
    · rw [if_pos (show b < a by omega), if_neg (by omega), if_neg g, if_pos (by omega)]
structure fm where
  k : Int
  n : Int
  d : Int
  m : Int
  e : Int
  p1 : Int
  p2 : Int
  q1 : Int
  q2 : Int
def hI : fm := ⟨0, 0, 0, 0, 0, 0, 0, 0, 0⟩
def iT (n d m e : Int) : fm := ⟨1, n, d, m, e, 0, 0, 0, 0⟩
def sw (p1 p2 q1 q2 : Int) : fm := ⟨2, 0, 0, 0, 0, p1, p2, q1, q2⟩
def jg (n d : Int) : Int := if d < 0 then -n else n
def ir (d : Int) : Int := if d < 0 then -d else d
theorem qF {d : Int} (h : d ≠ 0) (n : Int) : jg (-n) (-d) = jg n d := by unfold jg; split <;> split <;> omega
theorem zm (d : Int) : ir (-d) = ir d := by unfold ir; split <;> split <;> omega
theorem OK {d : Int} (h : d ≠ 0) : 0 < ir d := by unfold ir; split <;> omega
def jB (a1 a2 b1 b2 c1 c2 d1 d2 : Int) : Int := ((b2 - a2) * a1 + (a1 - b1) * a2) * (c1 - d1) - (a1 - b1) * ((d2 - c2) * c1 + (c1 - d1) * c2)
def jC (a1 a2 b1 b2 c1 c2 d1 d2 : Int) : Int := (b2 - a2) * ((d2 - c2) * c1 + (c1 - d1) * c2) - ((b2 - a2) * a1 + (a1 - b1) * a2) * (d2 - c2)
def cU (a1 a2 b1 b2 c1 c2 d1 d2 : Int) : Int := (b2 - a2) * (c1 - d1) - (a1 - b1) * (d2 - c2)
theorem Rz (a1 a2 b1 b2 c1 c2 d1 d2 : Int) : cU a1 a2 b1 b2 c1 c2 d1 d2 = oE a1 a2 b1 b2 c1 c2 d1 d2 := by unfold cU oE; grind
section
variable (a1 a2 b1 b2 c1 c2 d1 d2 : Int)
theorem DP : cU b1 b2 a1 a2 c1 c2 d1 d2 = - cU a1 a2 b1 b2 c1 c2 d1 d2 := by unfold cU; grind
theorem Ab : cU a1 a2 b1 b2 d1 d2 c1 c2 = - cU a1 a2 b1 b2 c1 c2 d1 d2 := by unfold cU; grind
theorem DQ : cU c1 c2 d1 d2 a1 a2 b1 b2 = - cU a1 a2 b1 b2 c1 c2 d1 d2 := by unfold cU; grind
theorem aaX : jB b1 b2 a1 a2 c1 c2 d1 d2 = - jB a1 a2 b1 b2 c1 c2 d1 d2 := by unfold jB; grind
theorem aaY : jB a1 a2 b1 b2 d1 d2 c1 c2 = - jB a1 a2 b1 b2 c1 c2 d1 d2 := by unfold jB; grind
theorem Om : jB c1 c2 d1 d2 a1 a2 b1 b2 = - jB a1 a2 b1 b2 c1 c2 d1 d2 := by unfold jB; grind
theorem aaZ : jC b1 b2 a1 a2 c1 c2 d1 d2 = - jC a1 a2 b1 b2 c1 c2 d1 d2 := by unfold jC; grind
theorem aa0 : jC a1 a2 b1 b2 d1 d2 c1 c2 = - jC a1 a2 b1 b2 c1 c2 d1 d2 := by unfold jC; grind
theorem On : jC c1 c2 d1 d2 a1 a2 b1 b2 = - jC a1 a2 b1 b2 c1 c2 d1 d2 := by unfold jC; grind
theorem Hu : c1 * bV a1 a2 b1 b2 d1 d2 - d1 * bV a1 a2 b1 b2 c1 c2 = jB a1 a2 b1 b2 c1 c2 d1 d2 := by unfold jB bV; grind
theorem Hv : c2 * bV a1 a2 b1 b2 d1 d2 - d2 * bV a1 a2 b1 b2 c1 c2 = jC a1 a2 b1 b2 c1 c2 d1 d2 := by unfold jC bV; grind
theorem IH : bV a1 a2 b1 b2 d1 d2 - bV a1 a2 b1 b2 c1 c2 = cU a1 a2 b1 b2 c1 c2 d1 d2 := by unfold cU bV; grind
end
def four (a1 a2 b1 b2 c1 c2 d1 d2 x y d : Int) : Prop := kA x d a1 b1 ∧ kA y d a2 b2 ∧ kA x d c1 d1 ∧ kA y d c2 d2
instance (n d a b : Int) : Decidable (kA n d a b) := by unfold kA; exact inferInstance
instance (a1 a2 b1 b2 c1 c2 d1 d2 x y d : Int) : Decidable (four a1 a2 b1 b2 c1 c2 d1 d2 x y d) := by unfold four; exact inferInstance
theorem y6 {α : Type} {p q : Prop} [Decidable p] [Decidable q] {a b : α} (h : p ↔ q) : (if p then a else b) = if q then a else b := by
  by_cases k : p
  · rw [if_pos k, if_pos (h.1 k)]
  · rw [if_neg k, if_neg fun g => k (h.2 g)]
def td (a1 a2 b1 b2 c1 c2 d1 d2 x y d : Int) : fm := if four a1 a2 b1 b2 c1 c2 d1 d2 x y d then iT x d y d else hI
def mg (a1 a2 b1 b2 c1 c2 d1 d2 : Int) : fm :=
  td a1 a2 b1 b2 c1 c2 d1 d2 (jg (jB a1 a2 b1 b2 c1 c2 d1 d2) (cU a1 a2 b1 b2 c1 c2 d1 d2)) (jg (jC a1 a2 b1 b2 c1 c2 d1 d2) (cU a1 a2 b1 b2 c1 c2 d1 d2)) (ir (cU a1 a2 b1 b2 c1 c2 d1 d2))
theorem aak {a1 a2 b1 b2 c1 c2 d1 d2 : Int} (h : cU a1 a2 b1 b2 c1 c2 d1 d2 ≠ 0) : mg b1 b2 a1 a2 c1 c2 d1 d2 = mg a1 a2 b1 b2 c1 c2 d1 d2 := by
  unfold mg;rw [DP, aaX, aaZ, qF h, qF h, zm];unfold td four;exact y6 (by rw [re (a := b1), re (a := b2)])
theorem aal {a1 a2 b1 b2 c1 c2 d1 d2 : Int} (h : cU a1 a2 b1 b2 c1 c2 d1 d2 ≠ 0) : mg a1 a2 b1 b2 d1 d2 c1 c2 = mg a1 a2 b1 b2 c1 c2 d1 d2 := by
  unfold mg;rw [Ab, aaY, aa0, qF h, qF h, zm];unfold td four;exact y6 (by rw [re (a := d1), re (a := d2)])
theorem aam {a1 a2 b1 b2 c1 c2 d1 d2 : Int} (h : cU a1 a2 b1 b2 c1 c2 d1 d2 ≠ 0) : mg c1 c2 d1 d2 a1 a2 b1 b2 = mg a1 a2 b1 b2 c1 c2 d1 d2 := by
  unfold mg;rw [DQ, Om, On, qF h, qF h, zm];unfold td four;refine y6 ?_
  constructor
  · rintro ⟨h1, h2, h3, aE⟩; exact ⟨h3, aE, h1, h2⟩
  · rintro ⟨h1, h2, h3, aE⟩; exact ⟨h3, aE, h1, h2⟩
def same (m n : Int) : Prop := (0 < m ∧ 0 < n) ∨ (m < 0 ∧ n < 0)
instance (m n : Int) : Decidable (same m n) := by unfold same; exact inferInstance
theorem Ry {a1 a2 b1 b2 c1 c2 d1 d2 : Int} (h : cU a1 a2 b1 b2 c1 c2 d1 d2 ≠ 0) : ¬ (a1 = b1 ∧ a2 = b2) ∧ ¬ (c1 = d1 ∧ c2 = d2) := by
  refine ⟨?_, ?_⟩
  · rintro ⟨rfl, rfl⟩; apply h; unfold cU; simp
  · rintro ⟨rfl, rfl⟩; apply h; unfold cU; simp
theorem Q8 {a1 a2 b1 b2 c1 c2 d1 d2 : Int} (h : cU a1 a2 b1 b2 c1 c2 d1 d2 ≠ 0) :
    (kA (jg (jB a1 a2 b1 b2 c1 c2 d1 d2) (cU a1 a2 b1 b2 c1 c2 d1 d2)) (ir (cU a1 a2 b1 b2 c1 c2 d1 d2)) c1 d1 ∧ kA (jg (jC a1 a2 b1 b2 c1 c2 d1 d2) (cU a1 a2 b1 b2 c1 c2 d1 d2)) (ir (cU a1 a2 b1 b2 c1 c2 d1 d2)) c2 d2) ↔ ¬ same (bV a1 a2 b1 b2 c1 c2) (bV a1 a2 b1 b2 d1 d2) := by
  have bX := (Ry h).2;have aF := Hu a1 a2 b1 b2 c1 c2 d1 d2;have aN := Hv a1 a2 b1 b2 c1 c2 d1 d2;have b5 := IH a1 a2 b1 b2 c1 c2 d1 d2;generalize jB a1 a2 b1 b2 c1 c2 d1 d2 = X at *;generalize jC a1 a2 b1 b2 c1 c2 d1 d2 = Y at *;generalize cU a1 a2 b1 b2 c1 c2 d1 d2 = w at *;generalize bV a1 a2 b1 b2 c1 c2 = C at *;generalize bV a1 a2 b1 b2 d1 d2 = D at *;unfold jg ir same
  by_cases g : w < 0
  · rw [if_pos g, if_pos g, if_pos g, re (a := c1), re (a := c2)]
    have aR := A6 (x := d1) (y := c1) (u := d2) (v := c2) (A := -D) (B := -C) (D := -w) (by omega) (by omega) (by omega);have f1 : c1 * -D - d1 * -C = -X := by rw [← aF]; simp only [Int.mul_neg]; omega
    have f2 : c2 * -D - d2 * -C = -Y := by rw [← aN]; simp only [Int.mul_neg]; omega
    rw [f1, f2] at aR;rw [aR]; omega
  · rw [if_neg g, if_neg g, if_neg g, re (a := c1), re (a := c2)]
    have aR := A6 (x := d1) (y := c1) (u := d2) (v := c2) (A := D) (B := C) (D := w) (by omega) (by omega) (by omega);rw [aF, aN] at aR;rw [aR]; omega
theorem ae6 {a1 a2 b1 b2 c1 c2 d1 d2 : Int} (h : cU a1 a2 b1 b2 c1 c2 d1 d2 ≠ 0) :
    (kA (jg (jB a1 a2 b1 b2 c1 c2 d1 d2) (cU a1 a2 b1 b2 c1 c2 d1 d2)) (ir (cU a1 a2 b1 b2 c1 c2 d1 d2)) a1 b1 ∧ kA (jg (jC a1 a2 b1 b2 c1 c2 d1 d2) (cU a1 a2 b1 b2 c1 c2 d1 d2)) (ir (cU a1 a2 b1 b2 c1 c2 d1 d2)) a2 b2) ↔ ¬ same (bV c1 c2 d1 d2 a1 a2) (bV c1 c2 d1 d2 b1 b2) := by
  have aJ : cU c1 c2 d1 d2 a1 a2 b1 b2 ≠ 0 := by rw [DQ]; omega
  have := Q8 aJ;rw [Om, On, DQ, qF h, qF h, zm] at this;exact this
theorem Wk {a1 a2 b1 b2 c1 c2 d1 d2 : Int} (h : cU a1 a2 b1 b2 c1 c2 d1 d2 ≠ 0) :
    four a1 a2 b1 b2 c1 c2 d1 d2 (jg (jB a1 a2 b1 b2 c1 c2 d1 d2) (cU a1 a2 b1 b2 c1 c2 d1 d2)) (jg (jC a1 a2 b1 b2 c1 c2 d1 d2) (cU a1 a2 b1 b2 c1 c2 d1 d2)) (ir (cU a1 a2 b1 b2 c1 c2 d1 d2)) ↔ ¬ (same (bV a1 a2 b1 b2 c1 c2) (bV a1 a2 b1 b2 d1 d2) ∨ same (bV c1 c2 d1 d2 a1 a2) (bV c1 c2 d1 d2 b1 b2)) := by
  unfold four;have p := Q8 h;have q := ae6 h
  constructor
  · rintro ⟨h1, h2, h3, aE⟩ (g | g)
    · exact p.1 ⟨h3, aE⟩ g
    · exact q.1 ⟨h1, h2⟩ g
  · intro g
    obtain ⟨h3, aE⟩ := p.2 fun k => g (.inl k);obtain ⟨h1, h2⟩ := q.2 fun k => g (.inr k);exact ⟨h1, h2, h3, aE⟩
def eA (a1 a2 b1 b2 : Int) : Int := if di a1 a2 b1 b2 then a1 else b1
def eb (a1 a2 b1 b2 : Int) : Int := if di a1 a2 b1 b2 then a2 else b2
def ee (a1 a2 b1 b2 : Int) : Int := if di a1 a2 b1 b2 then b1 else a1
def dN (a1 a2 b1 b2 : Int) : Int := if di a1 a2 b1 b2 then b2 else a2
theorem mT (a1 a2 b1 b2 : Int) : (eA a1 a2 b1 b2 = a1 ∧ eb a1 a2 b1 b2 = a2 ∧ ee a1 a2 b1 b2 = b1 ∧ dN a1 a2 b1 b2 = b2 ∧ di a1 a2 b1 b2) ∨ (eA a1 a2 b1 b2 = b1 ∧ eb a1 a2 b1 b2 = b2 ∧ ee a1 a2 b1 b2 = a1 ∧ dN a1 a2 b1 b2 = a2 ∧ di b1 b2 a1 a2) := by
  unfold eA eb ee dN
  by_cases h : di a1 a2 b1 b2
  · simp [h]
  · simp [h, (di.total a1 a2 b1 b2).resolve_left h]
theorem wL (a1 a2 b1 b2 : Int) : di (eA a1 a2 b1 b2) (eb a1 a2 b1 b2) (ee a1 a2 b1 b2) (dN a1 a2 b1 b2) := by
  rcases mT a1 a2 b1 b2 with ⟨h1, h2, h3, aE, h⟩ | ⟨h1, h2, h3, aE, h⟩ <;> rw [h1, h2, h3, aE] <;> exact h
theorem NM (a1 a2 b1 b2 : Int) : eA b1 b2 a1 a2 = eA a1 a2 b1 b2 ∧ eb b1 b2 a1 a2 = eb a1 a2 b1 b2 ∧ ee b1 b2 a1 a2 = ee a1 a2 b1 b2 ∧ dN b1 b2 a1 a2 = dN a1 a2 b1 b2 := by
  rcases mT a1 a2 b1 b2 with ⟨h1, h2, h3, aE, h⟩ | ⟨h1, h2, h3, aE, h⟩ <;> rcases mT b1 b2 a1 a2 with ⟨bd, bC, ez, jz, k⟩ | ⟨bd, bC, ez, jz, k⟩ <;> rw [h1, h2, h3, aE, bd, bC, ez, jz] <;> (try have := di.AU h k) <;> simp_all
theorem zo {p1 p2 a1 a2 b1 b2 : Int} : dh p1 p2 b1 b2 a1 a2 ↔ dh p1 p2 a1 a2 b1 b2 := by
  unfold dh rM;have e : bV b1 b2 a1 a2 p1 p2 = - bV a1 a2 b1 b2 p1 p2 := by unfold bV; grind
  have m : ∀ x y : Int, gz x y = gz y x := fun x y => by unfold gz; split <;> split <;> omega
  have n : ∀ x y : Int, gy x y = gy y x := fun x y => by unfold gy; split <;> split <;> omega
  rw [e, m a1, m a2, n a1, n a2]
  constructor <;> rintro ⟨h, k⟩ <;> exact ⟨by omega, k⟩
instance (p1 p2 a1 a2 b1 b2 : Int) : Decidable (rM p1 p2 a1 a2 b1 b2) := by unfold rM; exact inferInstance
instance (p1 p2 a1 a2 b1 b2 : Int) : Decidable (dh p1 p2 a1 a2 b1 b2) := by unfold dh; exact inferInstance
theorem zq {p1 p2 a1 a2 b1 b2 : Int} : dh p1 p2 (eA a1 a2 b1 b2) (eb a1 a2 b1 b2) (ee a1 a2 b1 b2) (dN a1 a2 b1 b2) ↔ dh p1 p2 a1 a2 b1 b2 := by
  rcases mT a1 a2 b1 b2 with ⟨h1, h2, h3, aE, h⟩ | ⟨h1, h2, h3, aE, h⟩ <;> rw [h1, h2, h3, aE];exact zo
theorem adf {s1 s2 bM bN t1 t2 t3 t4 : Int} : oE t1 t2 t3 t4 s1 s2 bM bN = - oE s1 s2 bM bN t1 t2 t3 t4 := by unfold oE; grind
theorem NN {s1 s2 bM bN t1 t2 t3 t4 p1 p2 : Int} (hs : di s1 s2 bM bN) (ax : di t1 t2 t3 t4) (hw : oE s1 s2 bM bN t1 t2 t3 t4 = 0) (ps : dh p1 p2 s1 s2 bM bN) (oG : dh p1 p2 t1 t2 t3 t4) :
    dh (ee s1 s2 t1 t2) (dN s1 s2 t1 t2) s1 s2 bM bN ∧ dh (ee s1 s2 t1 t2) (dN s1 s2 t1 t2) t1 t2 t3 t4 ∧ dh (eA bM bN t3 t4) (eb bM bN t3 t4) s1 s2 bM bN ∧ dh (eA bM bN t3 t4) (eb bM bN t3 t4) t1 t2 t3 t4
    ∧ di (ee s1 s2 t1 t2) (dN s1 s2 t1 t2) p1 p2 ∧ di p1 p2 (eA bM bN t3 t4) (eb bM bN t3 t4) := by
  obtain ⟨_, dB, w8⟩ := (u2 hs).1 ps;obtain ⟨_, t0, t9⟩ := (u2 ax).1 oG;have om : oE t1 t2 t3 t4 s1 s2 bM bN = 0 := by rw [adf]; omega
  rcases mT s1 s2 t1 t2 with ⟨_, _, h3, aE, h⟩ | ⟨_, _, h3, aE, h⟩ <;> rcases mT bM bN t3 t4 with ⟨bd, bC, _, _, k⟩ | ⟨bd, bC, _, _, k⟩ <;> rw [h3, aE, bd, bC]
  · exact ⟨tn ax hs om oG ps (tl ax) h (t0.trans w8), tl ax, tk hs, tn hs ax hw ps oG (tk hs) (t0.trans w8) k, t0, w8⟩
  · exact ⟨tn ax hs om oG ps (tl ax) h (t0.trans w8), tl ax, tn ax hs om oG ps (tk ax) (dB.trans t9) k, tk ax, t0, t9⟩
  · exact ⟨tl hs, tn hs ax hw ps oG (tl hs) h (dB.trans t9), tk hs, tn hs ax hw ps oG (tk hs) (t0.trans w8) k, dB, w8⟩
  · exact ⟨tl hs, tn hs ax hw ps oG (tl hs) h (dB.trans t9), tn ax hs om oG ps (tk ax) (dB.trans t9) k, tk ax, dB, t9⟩
def uP (f1 f2 g1 g2 : Int) : fm := if f1 = g1 ∧ f2 = g2 then iT f1 1 f2 1 else sw f1 f2 g1 g2
def inl (s1 s2 bM bN t1 t2 t3 t4 : Int) : fm :=
  if dh (ee s1 s2 t1 t2) (dN s1 s2 t1 t2) s1 s2 bM bN ∧ dh (ee s1 s2 t1 t2) (dN s1 s2 t1 t2) t1 t2 t3 t4 then uP (ee s1 s2 t1 t2) (dN s1 s2 t1 t2) (eA bM bN t3 t4) (eb bM bN t3 t4) else hI
def uQ (a1 a2 b1 b2 c1 c2 d1 d2 : Int) : fm := inl (eA a1 a2 b1 b2) (eb a1 a2 b1 b2) (ee a1 a2 b1 b2) (dN a1 a2 b1 b2) (eA c1 c2 d1 d2) (eb c1 c2 d1 d2) (ee c1 c2 d1 d2) (dN c1 c2 d1 d2)
def h5 (a1 a2 b1 b2 c1 c2 d1 d2 : Int) : fm := if cU a1 a2 b1 b2 c1 c2 d1 d2 = 0 then uQ a1 a2 b1 b2 c1 c2 d1 d2 else mg a1 a2 b1 b2 c1 c2 d1 d2
theorem N0 (a1 a2 b1 b2 c1 c2 d1 d2 : Int) : h5 b1 b2 a1 a2 c1 c2 d1 d2 = h5 a1 a2 b1 b2 c1 c2 d1 d2 := by
  unfold h5;obtain ⟨h1, h2, h3, aE⟩ := NM a1 a2 b1 b2
  by_cases h : cU a1 a2 b1 b2 c1 c2 d1 d2 = 0
  · rw [if_pos (by rw [DP]; omega), if_pos h]; unfold uQ; rw [h1, h2, h3, aE]
  · rw [if_neg (by rw [DP]; omega), if_neg h, aak h]
theorem N1 (a1 a2 b1 b2 c1 c2 d1 d2 : Int) : h5 a1 a2 b1 b2 d1 d2 c1 c2 = h5 a1 a2 b1 b2 c1 c2 d1 d2 := by
  unfold h5;obtain ⟨h1, h2, h3, aE⟩ := NM c1 c2 d1 d2
  by_cases h : cU a1 a2 b1 b2 c1 c2 d1 d2 = 0
  · rw [if_pos (by rw [Ab]; omega), if_pos h]; unfold uQ; rw [h1, h2, h3, aE]
  · rw [if_neg (by rw [Ab]; omega), if_neg h, aal h]
theorem aao (a1 a2 b1 b2 c1 c2 d1 d2 : Int) : h5 (eA a1 a2 b1 b2) (eb a1 a2 b1 b2) (ee a1 a2 b1 b2) (dN a1 a2 b1 b2) (eA c1 c2 d1 d2) (eb c1 c2 d1 d2) (ee c1 c2 d1 d2) (dN c1 c2 d1 d2) = h5 a1 a2 b1 b2 c1 c2 d1 d2 := by
  rcases mT a1 a2 b1 b2 with ⟨h1, h2, h3, aE, _⟩ | ⟨h1, h2, h3, aE, _⟩ <;> rcases mT c1 c2 d1 d2 with ⟨bd, bC, ez, jz, _⟩ | ⟨bd, bC, ez, jz, _⟩ <;> rw [h1, h2, h3, aE, bd, bC, ez, jz]
  · rw [N1]
  · rw [N0]
  · rw [N0, N1]
def He (s1 s2 bM bN t1 t2 t3 t4 A B C D : Int) : fm :=
  if A = B then inl s1 s2 bM bN t1 t2 t3 t4
  else if same A B ∨ same C D then hI
  else iT (jg (t3 * A - t1 * B) (A - B)) (ir (A - B)) (jg (t4 * A - t2 * B) (A - B)) (ir (A - B))
theorem NU {s1 s2 bM bN : Int} (h : di s1 s2 bM bN) : eA s1 s2 bM bN = s1 ∧ eb s1 s2 bM bN = s2 ∧ ee s1 s2 bM bN = bM ∧ dN s1 s2 bM bN = bN := by
  unfold eA eb ee dN; simp [h]
theorem aan {s1 s2 bM bN t1 t2 t3 t4 : Int} (hs : di s1 s2 bM bN) (ax : di t1 t2 t3 t4) :
    He s1 s2 bM bN t1 t2 t3 t4 (bV s1 s2 bM bN t1 t2) (bV s1 s2 bM bN t3 t4) (bV t1 t2 t3 t4 s1 s2) (bV t1 t2 t3 t4 bM bN) = h5 s1 s2 bM bN t1 t2 t3 t4 := by
  have aF := Hu s1 s2 bM bN t1 t2 t3 t4;have aN := Hv s1 s2 bM bN t1 t2 t3 t4;have b5 := IH s1 s2 bM bN t1 t2 t3 t4;unfold He h5
  by_cases h : cU s1 s2 bM bN t1 t2 t3 t4 = 0
  · rw [if_pos (by omega), if_pos h]
    unfold uQ;obtain ⟨h1, h2, h3, aE⟩ := NU hs;obtain ⟨bd, bC, ez, jz⟩ := NU ax;rw [h1, h2, h3, aE, bd, bC, ez, jz]
  · rw [if_neg (by omega), if_neg h]
    have f := Wk h;have g1 : t3 * bV s1 s2 bM bN t1 t2 - t1 * bV s1 s2 bM bN t3 t4 = - jB s1 s2 bM bN t1 t2 t3 t4 := by omega
    have g2 : t4 * bV s1 s2 bM bN t1 t2 - t2 * bV s1 s2 bM bN t3 t4 = - jC s1 s2 bM bN t1 t2 t3 t4 := by omega
    have g3 : bV s1 s2 bM bN t1 t2 - bV s1 s2 bM bN t3 t4 = - cU s1 s2 bM bN t1 t2 t3 t4 := by omega
    rw [g1, g2, g3, qF h, qF h, zm];unfold mg td
    by_cases q : same (bV s1 s2 bM bN t1 t2) (bV s1 s2 bM bN t3 t4) ∨ same (bV t1 t2 t3 t4 s1 s2) (bV t1 t2 t3 t4 bM bN)
    · rw [if_pos q, if_neg fun k => f.1 k q]
    · rw [if_neg q, if_pos (f.2 q)]
structure hB where
 n : Int
 d : Int
 own : Bool
structure Pa where
 f : hB
 t : hB
def ha (x y : hB) : Int := cD (x.n * y.d) (y.n * x.d)
def qy (x y : hB) : hB := if 0 < ha x y ∨ (ha x y = 0 ∧ y.own = true) then x else y
def qe (x y : hB) : hB := if ha x y < 0 ∨ (ha x y = 0 ∧ y.own = true) then x else y
def jf (p : Pa) (u v : Int) (own : Bool) : Pa :=
 if 0 < v - u then ⟨qy p.f ⟨-u, v - u, own⟩, p.t⟩
 else if v - u < 0 then ⟨p.f, qe p.t ⟨u, -(v - u), own⟩⟩
 else if u < 0 ∨ (u = 0 ∧ own = false) then ⟨⟨1, 1, false⟩, ⟨0, 1, false⟩⟩ else p
def sB (p : Pa) : Bool := decide (ha p.f p.t < 0) || (decide (ha p.f p.t = 0) && p.f.own && p.t.own)
def p6 : Pa := ⟨⟨0, 1, true⟩, ⟨1, 1, true⟩⟩
theorem GR (x y : Int) : cD x y < 0 ↔ x < y := by unfold cD; split <;> (try split) <;> omega
theorem YS (x y : Int) : 0 < cD x y ↔ y < x := by unfold cD; split <;> (try split) <;> omega
theorem GQ (x y : Int) : cD x y = 0 ↔ x = y := by unfold cD; split <;> (try split) <;> omega
def pT (x : hB) (n d : Int) : Prop := x.n * d < n * x.d ∨ (x.own = true ∧ x.n * d = n * x.d)
def pV (y : hB) (n d : Int) : Prop := n * y.d < y.n * d ∨ (y.own = true ∧ n * y.d = y.n * d)
def n1 (p : Pa) (n d : Int) : Prop := pT p.f n d ∧ pV p.t n d
theorem ox {a b c : Int} (h : a < b) (aj : 0 < c) : a * c < b * c := Int.mul_lt_mul_of_pos_right h aj
theorem lt_mul {a b c : Int} (h : a * c < b * c) (aj : 0 < c) : a < b := Int.lt_of_mul_lt_mul_right h (by omega)
theorem le_mul {a b c : Int} (h : a * c ≤ b * c) (aj : 0 < c) : a ≤ b := Int.le_of_mul_le_mul_right h aj
theorem eq_mul {a b c : Int} (h : a * c = b * c) (aj : 0 < c) : a = b := Int.eq_of_mul_eq_mul_right (by omega) h
theorem ur {a b c d e f : Int} (ab : 0 < b) (hd : 0 < d) (ap : 0 < f) (h : a * d < c * b) (k : c * f < e * d) : a * f < e * b := by
 have h1 := ox h ap;have h2 := ox k ab;refine lt_mul (c := d) ?_ hd;have aF : a * d * f = a * f * d := by grind
 have aN : c * b * f = c * f * b := by grind
 have b5 : e * d * b = e * b * d := by grind
 omega
theorem vV {a b c d e f : Int} (ab : 0 < b) (hd : 0 < d) (ap : 0 < f) (h : a * d = c * b) (k : c * f < e * d) : a * f < e * b := by
 have h2 := ox k ab;refine lt_mul (c := d) ?_ hd;have aF : a * d * f = a * f * d := by grind
 have aN : c * b * f = c * f * b := by grind
 have b5 : e * d * b = e * b * d := by grind
 have h1 : a * d * f = c * b * f := by rw [h]
 omega
theorem vW {a b c d e f : Int} (ab : 0 < b) (hd : 0 < d) (ap : 0 < f) (h : a * d < c * b) (k : c * f = e * d) : a * f < e * b := by
 have h1 := ox h ap;refine lt_mul (c := d) ?_ hd;have aF : a * d * f = a * f * d := by grind
 have aN : c * b * f = c * f * b := by grind
 have b5 : e * d * b = e * b * d := by grind
 have h2 : c * f * b = e * d * b := by rw [k]
 omega
theorem Fl {a b c d e f : Int} (ab : 0 < b) (hd : 0 < d) (ap : 0 < f) (h : a * d = c * b) (k : c * f = e * d) : a * f = e * b := by
 refine eq_mul (c := d) ?_ hd;have aF : a * d * f = a * f * d := by grind
 have aN : c * b * f = c * f * b := by grind
 have b5 : e * d * b = e * b * d := by grind
 have h1 : a * d * f = c * b * f := by rw [h]
 have h2 : c * f * b = e * d * b := by rw [k]
 omega
theorem uh (x y : hB) : (x.n * y.d < y.n * x.d ∧ ha x y < 0) ∨ (x.n * y.d = y.n * x.d ∧ ha x y = 0) ∨ (y.n * x.d < x.n * y.d ∧ 0 < ha x y) := by
 have h1 := GR (x.n * y.d) (y.n * x.d);have h2 := YS (x.n * y.d) (y.n * x.d);have h3 := GQ (x.n * y.d) (y.n * x.d);unfold ha;omega
theorem Cr (x y : hB) : (qy x y = x ∧ (0 < ha x y ∨ (ha x y = 0 ∧ y.own = true))) ∨ (qy x y = y ∧ ¬ (0 < ha x y ∨ (ha x y = 0 ∧ y.own = true))) := by
 unfold qy
 split
 ·rename_i h; exact .inl ⟨rfl, h⟩
 ·rename_i h; exact .inr ⟨rfl, h⟩
theorem Bh (x y : hB) : (qe x y = x ∧ (ha x y < 0 ∨ (ha x y = 0 ∧ y.own = true))) ∨ (qe x y = y ∧ ¬ (ha x y < 0 ∨ (ha x y = 0 ∧ y.own = true))) := by
 unfold qe
 split
 ·rename_i h; exact .inl ⟨rfl, h⟩
 ·rename_i h; exact .inr ⟨rfl, h⟩
theorem Tp {x y : hB} {n d : Int} (aa : 0 < x.d) (ai : 0 < y.d) (hd : 0 < d) : pT (qy x y) n d ↔ pT x n d ∧ pT y n d := by
 unfold pT;rcases Cr x y with ⟨e, h⟩ | ⟨e, h⟩ <;> rw [e] <;> rcases uh x y with ⟨t, c⟩ | ⟨t, c⟩ | ⟨t, c⟩
 ·omega
 ·have ay : y.own = true := by rcases h with h | ⟨_, h⟩ <;> first | exact h | (exfalso; omega)
  refine ⟨fun k => ⟨k, ?_⟩, fun k => k.1⟩;rcases k with k | ⟨_, k⟩
  ·exact .inl (vV ai aa hd t.symm k)
  ·exact .inr ⟨ay, Fl ai aa hd t.symm k⟩
 ·refine ⟨fun k => ⟨k, ?_⟩, fun k => k.1⟩;rcases k with k | ⟨_, k⟩
  ·exact .inl (ur ai aa hd t k)
  ·exact .inl (vW ai aa hd t k)
 ·refine ⟨fun k => ⟨?_, k⟩, fun k => k.2⟩;rcases k with k | ⟨_, k⟩
  ·exact .inl (ur aa ai hd t k)
  ·exact .inl (vW aa ai hd t k)
 ·refine ⟨fun k => ⟨?_, k⟩, fun k => k.2⟩;have ay : ¬ y.own = true := fun q => h (.inr ⟨c, q⟩);rcases k with k | ⟨q, k⟩
  ·exact .inl (vV aa ai hd t k)
  ·exact absurd q ay
 ·omega
theorem UL {x y : hB} {n d : Int} (aa : 0 < x.d) (ai : 0 < y.d) (hd : 0 < d) : pV (qe x y) n d ↔ pV x n d ∧ pV y n d := by
 unfold pV;rcases Bh x y with ⟨e, h⟩ | ⟨e, h⟩ <;> rw [e] <;> rcases uh x y with ⟨t, c⟩ | ⟨t, c⟩ | ⟨t, c⟩
 ·refine ⟨fun k => ⟨k, ?_⟩, fun k => k.1⟩;rcases k with k | ⟨_, k⟩
  ·exact .inl (ur hd aa ai k t)
  ·exact .inl (vV hd aa ai k t)
 ·have ay : y.own = true := by rcases h with h | ⟨_, h⟩ <;> first | exact h | (exfalso; omega)
  refine ⟨fun k => ⟨k, ?_⟩, fun k => k.1⟩;rcases k with k | ⟨_, k⟩
  ·exact .inl (vW hd aa ai k t)
  ·exact .inr ⟨ay, Fl hd aa ai k t⟩
 ·omega
 ·omega
 ·refine ⟨fun k => ⟨?_, k⟩, fun k => k.2⟩;have ay : ¬ y.own = true := fun q => h (.inr ⟨c, q⟩);rcases k with k | ⟨q, k⟩
  ·exact .inl (vW hd ai aa k t.symm)
  ·exact absurd q ay
 ·refine ⟨fun k => ⟨?_, k⟩, fun k => k.2⟩;rcases k with k | ⟨_, k⟩
  ·exact .inl (ur hd ai aa k t)
  ·exact .inl (vV hd ai aa k t)
def ic (u v : Int) (own : Bool) (n d : Int) : Prop := 0 < u * (d - n) + v * n ∨ (own = true ∧ u * (d - n) + v * n = 0)
theorem Cp {p : Pa} {u v n d : Int} {own : Bool} (ap : 0 < p.f.d) (ax : 0 < p.t.d) (hd : 0 < d) : n1 (jf p u v own) n d ↔ n1 p n d ∧ ic u v own n d := by
 have cW : u * (d - n) + v * n = (v - u) * n + u * d := by grind
 unfold jf
 by_cases h1 : 0 < v - u
 ·rw [if_pos h1];unfold n1;rw [Tp ap h1 hd]
  have : pT ⟨-u, v - u, own⟩ n d ↔ ic u v own n d := by
   unfold pT ic;simp only;have aF : -u * d = -(u * d) := by grind
   have aN : n * (v - u) = (v - u) * n := by grind
   rw [cW, aF, aN]
   constructor
   ·rintro (k | ⟨k, l⟩)
    ·exact .inl (by omega)
    ·exact .inr ⟨k, by omega⟩
   ·rintro (k | ⟨k, l⟩)
    ·exact .inl (by omega)
    ·exact .inr ⟨k, by omega⟩
  rw [this]
  constructor
  ·rintro ⟨⟨a, b⟩, c⟩; exact ⟨⟨a, c⟩, b⟩
  ·rintro ⟨⟨a, c⟩, b⟩; exact ⟨⟨a, b⟩, c⟩
 ·rw [if_neg h1]
  by_cases h2 : v - u < 0
  ·rw [if_pos h2];unfold n1;have ak : (0 : Int) < -(v - u) := by omega
   rw [UL ax ak hd]
   have : pV ⟨u, -(v - u), own⟩ n d ↔ ic u v own n d := by
    unfold pV ic;simp only;have aN : n * -(v - u) = -((v - u) * n) := by grind
    rw [cW, aN]
    constructor
    ·rintro (k | ⟨k, l⟩)
     ·exact .inl (by omega)
     ·exact .inr ⟨k, by omega⟩
    ·rintro (k | ⟨k, l⟩)
     ·exact .inl (by omega)
     ·exact .inr ⟨k, by omega⟩
   rw [this]
   constructor
   ·rintro ⟨a, b, c⟩; exact ⟨⟨a, b⟩, c⟩
   ·rintro ⟨⟨a, b⟩, c⟩; exact ⟨a, b, c⟩
  ·rw [if_neg h2];have b5 : v - u = 0 := by omega
   have eB : u * (d - n) + v * n = u * d := by rw [cW, b5]; omega
   by_cases h3 : u < 0 ∨ (u = 0 ∧ own = false)
   ·rw [if_pos h3]
    have kp : ¬ ic u v own n d := by
     unfold ic;rw [eB];rcases h3 with h3 | ⟨rfl, rfl⟩
     ·have := ox h3 hd;omega
     ·simp
    refine ⟨fun k => absurd k ?_, fun k => absurd k.2 kp⟩;unfold n1 pT pV;simp;omega
   ·rw [if_neg h3]
    have YN : ic u v own n d := by
     unfold ic;rw [eB]
     by_cases aE : u = 0
     ·subst aE;right;refine ⟨?_, by simp⟩;cases own with
      | true => rfl
      | false => exact absurd (.inr ⟨rfl, rfl⟩) h3
     ·left;have : 0 < u := by omega
      have := ox this hd;omega
    exact ⟨fun k => ⟨k, YN⟩, fun k => k.1⟩
theorem ZS {x y : hB} (aa : 0 < x.d) (ai : 0 < y.d) : 0 < (qy x y).d := by unfold qy; split <;> assumption
theorem VQ {x y : hB} (aa : 0 < x.d) (ai : 0 < y.d) : 0 < (qe x y).d := by unfold qe; split <;> assumption
theorem qv {p : Pa} {u v : Int} {own : Bool} (ap : 0 < p.f.d) (ax : 0 < p.t.d) : 0 < (jf p u v own).f.d ∧ 0 < (jf p u v own).t.d := by
 unfold jf
 by_cases h1 : 0 < v - u
 ·rw [if_pos h1]; exact ⟨ZS ap h1, ax⟩
 ·rw [if_neg h1]
  by_cases h2 : v - u < 0
  ·rw [if_pos h2]; exact ⟨ap, VQ ax (by simp only; omega)⟩
  ·rw [if_neg h2]
   split
   ·exact ⟨by decide, by decide⟩
   ·exact ⟨ap, ax⟩
def Hf (x y : hB) : Int := x.n * y.d + y.n * x.d
def Cz (x y : hB) : Int := x.d * y.d + x.d * y.d
theorem N8 {p : Pa} (ap : 0 < p.f.d) (ax : 0 < p.t.d) (h : p.f.n * p.t.d < p.t.n * p.f.d) : 0 < Cz p.f p.t ∧ n1 p (Hf p.f p.t) (Cz p.f p.t) := by
 unfold Hf Cz n1 pT pV;have hm : 0 < p.f.d * p.t.d := Int.mul_pos ap ax;refine ⟨by omega, .inl ?_, .inl ?_⟩
 ·have := ox h ap;grind
 ·have := ox h ax;grind
theorem JR {p : Pa} (ap : 0 < p.f.d) (ax : 0 < p.t.d) : sB p = true ↔ ∃ n d, 0 < d ∧ n1 p n d := by
 unfold sB;simp only [qL, dx, ca]
 constructor
 ·intro h;rcases uh p.f p.t with ⟨t, c⟩ | ⟨t, c⟩ | ⟨t, c⟩
  ·obtain ⟨h1, h2⟩ := N8 ap ax t;exact ⟨_, _, h1, h2⟩
  ·rcases h with h | ⟨⟨_, h1⟩, h2⟩
   ·omega
   ·exact ⟨p.f.n, p.f.d, ap, .inr ⟨h1, rfl⟩, .inr ⟨h2, t⟩⟩
  ·rcases h with h | ⟨⟨h, _⟩, _⟩ <;> omega
 ·rintro ⟨n, d, hd, h1, h2⟩;rcases uh p.f p.t with ⟨t, c⟩ | ⟨t, c⟩ | ⟨t, c⟩
  ·exact .inl c
  ·right;refine ⟨⟨c, ?_⟩, ?_⟩
   ·rcases h1 with h1 | ⟨h1, _⟩
    ·exfalso;rcases h2 with h2 | ⟨_, h2⟩
     ·have := ur ap hd ax h1 h2; omega
     ·have := vW ap hd ax h1 h2; omega
    ·exact h1
   ·rcases h2 with h2 | ⟨h2, _⟩
    ·exfalso;rcases h1 with h1 | ⟨_, h1⟩
     ·have := ur ap hd ax h1 h2; omega
     ·have := vV ap hd ax h1 h2; omega
    ·exact h2
  ·exfalso;rcases h1 with h1 | ⟨_, h1⟩ <;> rcases h2 with h2 | ⟨_, h2⟩
   ·have := ur ap hd ax h1 h2; omega
   ·have := vW ap hd ax h1 h2; omega
   ·have := vV ap hd ax h1 h2; omega
   ·have := Fl ap hd ax h1 h2; omega
def qc (cr v1 cm v2 iW v3 kT v4 : Int) (o p : Bool) : Pa := jf (jf (jf (jf p6 cr v1 o) cm v2 o) iW v3 p) kT v4 p
theorem EX (cr v1 cm v2 iW v3 kT v4 : Int) (o p : Bool) : 0 < (qc cr v1 cm v2 iW v3 kT v4 o p).f.d ∧ 0 < (qc cr v1 cm v2 iW v3 kT v4 o p).t.d := by
 unfold qc;have h1 := qv (p := p6) (u := cr) (v := v1) (own := o) (by decide) (by decide);have h2 := qv (u := cm) (v := v2) (own := o) h1.1 h1.2;have h3 := qv (u := iW) (v := v3) (own := p) h2.1 h2.2;exact qv (u := kT) (v := v4) (own := p) h3.1 h3.2
theorem TU {n d : Int} (hd : 0 < d) : n1 p6 n d ↔ 0 ≤ n ∧ n ≤ d := by
 unfold n1 pT pV p6;simp;omega
theorem EY {cr v1 cm v2 iW v3 kT v4 n d : Int} {o p : Bool} (hd : 0 < d) : n1 (qc cr v1 cm v2 iW v3 kT v4 o p) n d ↔ (0 ≤ n ∧ n ≤ d) ∧ ic cr v1 o n d ∧ ic cm v2 o n d ∧ ic iW v3 p n d ∧ ic kT v4 p n d := by
 unfold qc;have h1 := qv (p := p6) (u := cr) (v := v1) (own := o) (by decide) (by decide);have h2 := qv (u := cm) (v := v2) (own := o) h1.1 h1.2;have h3 := qv (u := iW) (v := v3) (own := p) h2.1 h2.2;rw [Cp h3.1 h3.2 hd, Cp h2.1 h2.2 hd, Cp h1.1 h1.2 hd, Cp (by decide) (by decide) hd, TU hd];simp only [and_assoc]
def Met (cr v1 cm v2 iW v3 kT v4 : Int) (o p : Bool) : Prop := ∃ n d, 0 < d ∧ (0 ≤ n ∧ n ≤ d) ∧ ic cr v1 o n d ∧ ic cm v2 o n d ∧ ic iW v3 p n d ∧ ic kT v4 p n d
theorem Vj (cr v1 cm v2 iW v3 kT v4 : Int) (o p : Bool) : sB (qc cr v1 cm v2 iW v3 kT v4 o p) = true ↔ Met cr v1 cm v2 iW v3 kT v4 o p := by
 obtain ⟨h1, h2⟩ := EX cr v1 cm v2 iW v3 kT v4 o p;rw [JR h1 h2]
 constructor
 ·rintro ⟨n, d, hd, h⟩; exact ⟨n, d, hd, (EY hd).1 h⟩
 ·rintro ⟨n, d, hd, h⟩; exact ⟨n, d, hd, (EY hd).2 h⟩
def vu (X Y W a1 a2 b1 b2 : Int) : Prop := ∃ n d, 0 < d ∧ (0 ≤ n ∧ n ≤ d) ∧ X * d = W * (a1 * (d - n) + b1 * n) ∧ Y * d = W * (a2 * (d - n) + b2 * n)
theorem O7 {p1 p2 a1 a2 b1 b2 : Int} (h : dh p1 p2 a1 a2 b1 b2) : vu p1 p2 1 a1 a2 b1 b2 := by
 obtain ⟨aA, h1, h2, h3, aE⟩ := h;unfold bV at aA;unfold gz at h1 h3;unfold gy at h2 aE;rcases Int.lt_trichotomy a1 b1 with g | g | g
 ·rw [if_neg (by omega)] at h1; rw [if_pos (show b1 > a1 from g)] at h2;exact ⟨p1 - a1, b1 - a1, by omega, by omega, by grind, by grind⟩
 ·subst g;rcases Int.lt_trichotomy a2 b2 with g | g | g
  ·rw [if_neg (by omega)] at h3; rw [if_pos (show b2 > a2 from g)] at aE;have : p1 = a1 := by split at h1 <;> split at h2 <;> omega
   exact ⟨p2 - a2, b2 - a2, by omega, by omega, by grind, by grind⟩
  ·subst g;have aF : p1 = a1 := by split at h1 <;> split at h2 <;> omega
   have aN : p2 = a2 := by split at h3 <;> split at aE <;> omega
   exact ⟨0, 1, by omega, by omega, by grind, by grind⟩
  ·rw [if_pos g] at h3; rw [if_neg (by omega)] at aE;have : p1 = a1 := by split at h1 <;> split at h2 <;> omega
   exact ⟨a2 - p2, a2 - b2, by omega, by omega, by grind, by grind⟩
 ·rw [if_pos g] at h1; rw [if_neg (by omega)] at h2;exact ⟨a1 - p1, a1 - b1, by omega, by omega, by grind, by grind⟩
theorem Ip {v W : Int} (dJ : 0 < W) (h : 0 ≤ v * W) : 0 ≤ v := by
 refine Int.not_lt.1 fun a8 => ?_;have := Int.mul_lt_mul_of_pos_right a8 dJ;omega
theorem aeW {v W : Int} (dJ : 0 < W) (h : 0 < v * W) : 0 < v := by
 refine Int.not_le.1 fun hle => ?_;have := lh hle (show 0 ≤ W by omega);omega
theorem P9 {X Y W a1 a2 b1 b2 l1 l2 h1 h2 : Int} (dJ : 0 < W) (h : vu X Y W a1 a2 b1 b2) (g1 : l1 * W ≤ 2 * X) (g2 : l2 * W ≤ 2 * Y) (g3 : 2 * X < h1 * W) (g4 : 2 * Y < h2 * W) :
  Met (2 * a1 - l1) (2 * b1 - l1) (2 * a2 - l2) (2 * b2 - l2) (h1 - 2 * a1) (h1 - 2 * b1) (h2 - 2 * a2) (h2 - 2 * b2) true false := by
 obtain ⟨n, d, hd, au, aF, aN⟩ := h
 have low : ∀ {X a b l : Int}, X * d = W * (a * (d - n) + b * n) → l * W ≤ 2 * X → ic (2 * a - l) (2 * b - l) true n d := fun {X a b l} e g => by
  have k := fD (show 0 ≤ d by omega) (show 0 ≤ 2 * X - l * W by omega);have bm : ((2 * a - l) * (d - n) + (2 * b - l) * n) * W = d * (2 * X - l * W) := by grind
  rw [← bm] at k;rcases Int.lt_or_eq_of_le (Ip dJ k) with h | h
  ·exact .inl h
  ·exact .inr ⟨rfl, h.symm⟩
 have high : ∀ {X a b l : Int}, X * d = W * (a * (d - n) + b * n) → 2 * X < l * W → ic (l - 2 * a) (l - 2 * b) false n d := fun {X a b l} e g => by
  have k := Int.mul_pos hd (show 0 < l * W - 2 * X by omega);have bm : ((l - 2 * a) * (d - n) + (l - 2 * b) * n) * W = d * (l * W - 2 * X) := by grind
  rw [← bm] at k;exact .inl (aeW dJ k)
 exact ⟨n, d, hd, au, low aF g1, low aN g2, high aF g3, high aN g4⟩
theorem P8 {X Y W a1 a2 b1 b2 : Int} (h : vu X Y W a1 a2 b1 b2) : (b1 - a1) * (Y - a2 * W) = (b2 - a2) * (X - a1 * W) := by
 obtain ⟨n, d, hd, au, aF, aN⟩ := h;have : d * ((b1 - a1) * (Y - a2 * W) - (b2 - a2) * (X - a1 * W)) = 0 := by grind
 rcases r3.1 this with h | h
 ·omega
 ·omega
theorem NZ {a1 a2 b1 b2 c1 c2 d1 d2 X Y W bb : Int} (h : cU a1 a2 b1 b2 c1 c2 d1 d2 ≠ 0) (e : mg a1 a2 b1 b2 c1 c2 d1 d2 = iT X W Y bb) : bb = W ∧ 0 < W ∧ vu X Y W c1 c2 d1 d2 := by
 obtain ⟨_, bX⟩ := Ry h;unfold mg td at e
 split at e
 ·rename_i aE;obtain ⟨_, _, bd, bC⟩ := aE;have aF := congrArg fm.n e;have aN := congrArg fm.d e;have b5 := congrArg fm.m e;have eB := congrArg fm.e e;simp only [iT] at aF aN b5 eB;have uw := Hu a1 a2 b1 b2 c1 c2 d1 d2;have v8 := Hv a1 a2 b1 b2 c1 c2 d1 d2;have hw := IH a1 a2 b1 b2 c1 c2 d1 d2;rw [← aN, ← eB];refine ⟨rfl, OK h, ?_⟩;rw [re] at bd bC;unfold jg at aF b5 bd bC;unfold ir at bd bC ⊢
  by_cases hs : cU a1 a2 b1 b2 c1 c2 d1 d2 < 0
  ·rw [if_pos hs] at aF b5 bd bC ⊢;rw [if_pos hs] at bd bC
   have := (A6 (x := d1) (y := c1) (u := d2) (v := c2) (A := -bV a1 a2 b1 b2 d1 d2) (B := -bV a1 a2 b1 b2 c1 c2) (D := -cU a1 a2 b1 b2 c1 c2 d1 d2) (by omega) (by omega) (by omega)).1 ⟨by
    rw [show c1 * -bV a1 a2 b1 b2 d1 d2 - d1 * -bV a1 a2 b1 b2 c1 c2 = -jB a1 a2 b1 b2 c1 c2 d1 d2 by grind]; exact bd, by
    rw [show c2 * -bV a1 a2 b1 b2 d1 d2 - d2 * -bV a1 a2 b1 b2 c1 c2 = -jC a1 a2 b1 b2 c1 c2 d1 d2 by grind]; exact bC⟩
   exact ⟨bV a1 a2 b1 b2 c1 c2, -cU a1 a2 b1 b2 c1 c2 d1 d2, by omega, by omega, by rw [← aF]; grind, by rw [← b5]; grind⟩
  ·rw [if_neg hs] at aF b5 bd bC ⊢;rw [if_neg hs] at bd bC
   have := (A6 (x := d1) (y := c1) (u := d2) (v := c2) (A := bV a1 a2 b1 b2 d1 d2) (B := bV a1 a2 b1 b2 c1 c2) (D := cU a1 a2 b1 b2 c1 c2 d1 d2) (by omega) (by omega) (by omega)).1 ⟨by
    rw [uw]; exact bd, by
    rw [v8]; exact bC⟩
   exact ⟨-bV a1 a2 b1 b2 c1 c2, cU a1 a2 b1 b2 c1 c2 d1 d2, by omega, by omega, by rw [← aF]; grind, by rw [← b5]; grind⟩
 ·have := congrArg fm.k e;simp [hI, iT] at this
theorem Cx {a1 a2 b1 b2 c1 c2 d1 d2 X Y W bb : Int} (e : h5 a1 a2 b1 b2 c1 c2 d1 d2 = iT X W Y bb) : bb = W ∧ 0 < W ∧ vu X Y W a1 a2 b1 b2 ∧ vu X Y W c1 c2 d1 d2 ∧ (∀ p1 p2, dh p1 p2 a1 a2 b1 b2 → dh p1 p2 c1 c2 d1 d2 → X = p1 * W ∧ Y = p2 * W) := by
 unfold h5 at e
 split at e
 ·rename_i hw;unfold uQ inl at e
  split at e
  ·rename_i Gs;obtain ⟨o1, o2⟩ := Gs;unfold uP at e
   split at e
   ·rename_i wk;have aF := congrArg fm.n e;have aN := congrArg fm.d e;have b5 := congrArg fm.m e;have eB := congrArg fm.e e;simp only [iT] at aF aN b5 eB;subst aN; subst eB;rw [zq] at o1 o2;rw [aF, b5] at o1 o2;refine ⟨rfl, by decide, O7 o1, O7 o2, fun p1 p2 hp ak => ?_⟩
    have Ye : oE (eA a1 a2 b1 b2) (eb a1 a2 b1 b2) (ee a1 a2 b1 b2) (dN a1 a2 b1 b2) (eA c1 c2 d1 d2) (eb c1 c2 d1 d2) (ee c1 c2 d1 d2) (dN c1 c2 d1 d2) = 0 := by
     rw [Rz] at hw;rcases mT a1 a2 b1 b2 with ⟨h1, h2, h3, aE, _⟩ | ⟨h1, h2, h3, aE, _⟩ <;> rcases mT c1 c2 d1 d2 with ⟨bd, bC, ez, jz, _⟩ | ⟨bd, bC, ez, jz, _⟩ <;> rw [h1, h2, h3, aE, bd, bC, ez, jz] <;> unfold oE at hw ⊢ <;> grind
    obtain ⟨_, _, _, _, l1, l2⟩ := NN (wL a1 a2 b1 b2) (wL c1 c2 d1 d2) Ye (zq.2 hp) (zq.2 ak);rw [← wk.1, ← wk.2] at l2;have := di.AU l1 l2;omega
   ·have := congrArg fm.k e;simp [sw, iT] at this
  ·have := congrArg fm.k e;simp [hI, iT] at this
 ·rename_i hw;obtain ⟨g1, g2, g3⟩ := NZ hw e;have om : cU c1 c2 d1 d2 a1 a2 b1 b2 ≠ 0 := by rw [DQ]; omega
  obtain ⟨_, _, g4⟩ := NZ om (by rw [aam hw]; exact e);refine ⟨g1, g2, g4, g3, fun p1 p2 hp ak => ?_⟩;have l1 := P8 g4;have l2 := P8 g3;have q1 := hp.1;have q2 := ak.1;unfold bV at q1 q2
  have line : ∀ {a1 a2 b1 b2 : Int}, (b1 - a1) * (Y - a2 * W) = (b2 - a2) * (X - a1 * W) → (b1 - a1) * (p2 - a2) - (b2 - a2) * (p1 - a1) = 0 → (b1 - a1) * (Y - p2 * W) = (b2 - a2) * (X - p1 * W) := fun {a1 a2 b1 b2} l q => by
   have z : (b1 - a1) * (Y - p2 * W) - (b2 - a2) * (X - p1 * W) = ((b1 - a1) * (Y - a2 * W) - (b2 - a2) * (X - a1 * W)) - ((b1 - a1) * (p2 - a2) - (b2 - a2) * (p1 - a1)) * W := by grind
   rw [q, l, Int.zero_mul] at z;omega
  have m1 := line l1 q1;have m2 := line l2 q2
  have gU : cU a1 a2 b1 b2 c1 c2 d1 d2 * (X - p1 * W) = 0 := by
   have z : cU a1 a2 b1 b2 c1 c2 d1 d2 * (X - p1 * W) = (b1 - a1) * ((d2 - c2) * (X - p1 * W)) - (d1 - c1) * ((b2 - a2) * (X - p1 * W)) := by unfold cU; grind
   rw [z, ← m1, ← m2, Int.mul_left_comm];omega
  have z2 : cU a1 a2 b1 b2 c1 c2 d1 d2 * (Y - p2 * W) = 0 := by
   have z : cU a1 a2 b1 b2 c1 c2 d1 d2 * (Y - p2 * W) = (d2 - c2) * ((b1 - a1) * (Y - p2 * W)) - (b2 - a2) * ((d1 - c1) * (Y - p2 * W)) := by unfold cU; grind
   rw [z, m1, m2, Int.mul_left_comm];omega
  have jo := (r3.1 gU).resolve_left hw;have qX := (r3.1 z2).resolve_left hw;omega
def xw (S : Int) (p q x : Int × Int) : Prop := Met (2 * (S * p.1) - (2 * (S * x.1) - S)) (2 * (S * q.1) - (2 * (S * x.1) - S)) (2 * (S * p.2) - (2 * (S * x.2) - S)) (2 * (S * q.2) - (2 * (S * x.2) - S)) (2 * (S * x.1) + S - 2 * (S * p.1)) (2 * (S * x.1) + S - 2 * (S * q.1)) (2 * (S * x.2) + S - 2 * (S * p.2)) (2 * (S * x.2) + S - 2 * (S * q.2)) true false
def Ax (S X Y W : Int) (x : Int × Int) : Prop := ((2 * (S * x.1) - S) * W ≤ 2 * X ∧ 2 * X < (2 * (S * x.1) + S) * W) ∧ (2 * (S * x.2) - S) * W ≤ 2 * Y ∧ 2 * Y < (2 * (S * x.2) + S) * W
abbrev Jc (S : Int) (x p q : Int × Int) : Prop := dh (S * x.1) (S * x.2) (S * p.1) (S * p.2) (S * q.1) (S * q.2)
theorem O4 (S : Int) (p q : Int × Int) : Jc S p p q := by
 refine ⟨EV .., ?_⟩;unfold rM gz gy
 split <;> split <;> split <;> split <;> omega
theorem O5 (S : Int) (p q : Int × Int) : Jc S q p q := by
 refine ⟨KP .., ?_⟩;unfold rM gz gy
 split <;> split <;> split <;> split <;> omega
theorem aaq {S : Int} (hS : 0 < S) {p q ft cd x : Int × Int} {X Y W bb : Int} (e : h5 (S * p.1) (S * p.2) (S * q.1) (S * q.2) (S * ft.1) (S * ft.2) (S * cd.1) (S * cd.2) = iT X W Y bb) (aa : Ax S X Y W x) (h1 : xw S p q x → x = p ∨ x = q) (h2 : xw S ft cd x → x = ft ∨ x = cd) :
  (x = p ∨ x = q) ∧ (x = ft ∨ x = cd) ∧ X = S * x.1 * W ∧ Y = S * x.2 * W := by
 obtain ⟨_, dJ, g1, g2, g3⟩ := Cx e;obtain ⟨⟨b1, b2⟩, dQ, dz⟩ := aa;have bd := h1 (P9 dJ g1 b1 dQ b2 dz);have bC := h2 (P9 dJ g2 b1 dQ b2 dz);refine ⟨bd, bC, g3 _ _ ?_ ?_⟩
 ·rcases bd with rfl | rfl
  ·exact O4 ..
  ·exact O5 ..
 ·rcases bC with rfl | rfl
  ·exact O4 ..
  ·exact O5 ..
end Go.Proofs.YtbcecodakfejaaaGreat
namespace Go.Proofs.YtbcecodakfejaaaGreat.bp
abbrev iD := Int × Int
abbrev NY (S : Int) (l m : iD × iD) : fm := h5 (S * l.1.1) (S * l.1.2) (S * l.2.1) (S * l.2.2) (S * m.1.1) (S * m.1.2) (S * m.2.1) (S * m.2.2)
def xH (l m : iD × iD) : Prop := l.1 = m.1 ∨ l.1 = m.2 ∨ l.2 = m.1 ∨ l.2 = m.2
structure xE (S : Int) (o : cO iD) : Prop where
 pos : 0 < S
 XS : ∀ p q x, o.BS p q x = true → xw S p q x
 Mt : ∀ p q x, o.gG p → o.gG q → o.gG x → xw S p q x → o.BS p q x = true
 KR : ∀ l m x, o.cut l m = some x → ¬ xH l m ∧ ∃ X Y W bb, NY S l m = iT X W Y bb ∧ Ax S X Y W x
 Vi : ∀ l m, o.gG l.1 → o.gG l.2 → o.gG m.1 → o.gG m.2 → o.cut l m = none → (NY S l m).k = 1 → xH l m
theorem xE.own {S : Int} {o : cO iD} (h : xE S o) {hot : List iD} (ao : ∀ y ∈ hot, o.gG y) {p q x : iD} (hp : p ∈ hot) (ak : q ∈ hot) (aa : x ∈ hot) (hs : q5 o hot p q) (hm : xw S p q x) : x = p ∨ x = q := by
 have h1 := hs x aa;have h2 := h.Mt p q x (ao _ hp) (ao _ ak) (ao _ aa) hm;unfold iI at h1;rw [h2, Bool.and_true, Bool.and_eq_false_iff] at h1;rcases h1 with h1 | h1
 ·exact .inl (by simpa using h1)
 ·exact .inr (by simpa using h1)
theorem xE.Vl {S : Int} {o : cO iD} (h : xE S o) (hot : List iD) (p q ft cd x : iD) (ao : ∀ y ∈ hot, o.gG y) (hp : p ∈ hot) (ak : q ∈ hot) (mN : ft ∈ hot) (oj : cd ∈ hot) (hs : q5 o hot p q) (B5 : q5 o hot ft cd) (aj : o.cut (p, q) (ft, cd) = some x) : x ∉ hot := fun aa => by
 obtain ⟨au, X, Y, W, bb, e, il⟩ := h.KR _ _ _ aj;obtain ⟨g1, g2, _⟩ := aaq h.pos e il (h.own ao hp ak aa hs) (h.own ao mN oj aa B5);refine au ?_;unfold xH;rcases g1 with rfl | rfl <;> rcases g2 with g2 | g2
 ·exact .inl g2
 ·exact .inr (.inl g2)
 ·exact .inr (.inr (.inl g2))
 ·exact .inr (.inr (.inr g2))
end Go.Proofs.YtbcecodakfejaaaGreat.bp
namespace Go.Proofs.YtbcecodakfejaaaGreat
def fP (S X W : Int) : Int := (2 * X + S * W) / (2 * (S * W))
theorem C9 {S W : Int} (hS : 0 < S) (dJ : 0 < W) (X : Int) : (2 * (S * fP S X W) - S) * W ≤ 2 * X ∧ 2 * X < (2 * (S * fP S X W) + S) * W := by
 have W1 := Int.mul_pos hS dJ;unfold fP;have h1 := pK (2 * X + S * W) (2 * (S * W));have h2 := nP (2 * X + S * W) (show 2 * (S * W) ≠ 0 by omega);have h3 := na (2 * X + S * W) (show 0 < 2 * (S * W) by omega);generalize (2 * X + S * W) / (2 * (S * W)) = g at *;generalize (2 * X + S * W) % (2 * (S * W)) = m at *;have aF : (2 * (S * g) - S) * W = 2 * (S * W) * g - S * W := by grind
 have aN : (2 * (S * g) + S) * W = 2 * (S * W) * g + S * W := by grind
 omega
theorem YY {S X Y W : Int} (hS : 0 < S) (dJ : 0 < W) : Ax S X Y W (fP S X W, fP S Y W) := ⟨C9 hS dJ X, C9 hS dJ Y⟩
theorem Qg {S X W n d p q g : Int} (hS : 0 < S) (dJ : 0 < W) (hd : 0 < d) (au : 0 ≤ n ∧ n ≤ d) (e : X * d = W * (S * p * (d - n) + S * q * n)) (h1 : (2 * (S * g) - S) * W ≤ 2 * X) (h2 : 2 * X < (2 * (S * g) + S) * W) : (p ≤ q → p ≤ g ∧ g ≤ q) ∧ (q ≤ p → q ≤ g ∧ g ≤ p) := by
 have W1 := Int.mul_pos hS dJ
 have aae : ∀ {b : Int}, b ≤ p → b ≤ q → S * W * b ≤ X := fun {b} bd bC => by
  have m1 := fD (show 0 ≤ S * W by omega) (fD (show 0 ≤ p - b by omega) (show 0 ≤ d - n by omega));have m2 := fD (show 0 ≤ S * W by omega) (fD (show 0 ≤ q - b by omega) au.1);have bm : (X - S * W * b) * d = S * W * ((p - b) * (d - n)) + S * W * ((q - b) * n) := by grind
  have := Ip (v := X - S * W * b) hd (by rw [bm]; omega);omega
 have XR : ∀ {b : Int}, p ≤ b → q ≤ b → X ≤ S * W * b := fun {b} bd bC => by
  have m1 := fD (show 0 ≤ S * W by omega) (fD (show 0 ≤ b - p by omega) (show 0 ≤ d - n by omega));have m2 := fD (show 0 ≤ S * W by omega) (fD (show 0 ≤ b - q by omega) au.1);have bm : (S * W * b - X) * d = S * W * ((b - p) * (d - n)) + S * W * ((b - q) * n) := by grind
  have := Ip (v := S * W * b - X) hd (by rw [bm]; omega);omega
 have low : ∀ {b : Int}, b ≤ p → b ≤ q → b ≤ g := fun {b} bd bC => by
  have uw := aae bd bC;refine Int.not_lt.1 fun a8 => ?_;have m := pJ (show g + 1 ≤ b by omega) (show 0 ≤ S * W by omega);have aN : (2 * (S * g) + S) * W = 2 * (S * W * (g + 1)) - S * W := by grind
  omega
 have high : ∀ {b : Int}, p ≤ b → q ≤ b → g ≤ b := fun {b} bd bC => by
  have uw := XR bd bC;refine Int.not_lt.1 fun a8 => ?_;have m := pJ (show b + 1 ≤ g by omega) (show 0 ≤ S * W by omega);have aF : (2 * (S * g) - S) * W = 2 * (S * W * g) - S * W := by grind
  have b5 : S * W * (b + 1) = S * W * b + S * W := by grind
  omega
 exact ⟨fun h => ⟨low (nM _) h, high h (nM _)⟩, fun h => ⟨low h (nM _), high (nM _) h⟩⟩
def eL (lt : Int × Int → Int × Int → Bool) : List (Int × Int) → List (Int × Int) → List (Int × Int)
 | [], b => b
 | x :: a, [] => x :: a
 | x :: a, y :: b => if lt y x then y :: eL lt (x :: a) b else x :: eL lt a (y :: b)
termination_by a b => a.length + b.length
theorem Hp (lt : Int × Int → Int × Int → Bool) (a : List (Int × Int)) : eL lt a [] = a := by cases a <;> simp [eL]
theorem aaD (lt : Int × Int → Int × Int → Bool) (a : List (Int × Int)) : eL lt [] a = a := by simp [eL]
theorem Ho (lt : Int × Int → Int × Int → Bool) : ∀ a b, (eL lt a b).length = a.length + b.length := by
 intro a b
 induction a, b using eL.induct lt with
 | case1 b => simp [eL]
 | case2 x a => simp [eL]
 | case3 x a y b h bO => rw [eL, if_pos h, jZ, bO]; simp; omega
 | case4 x a y b h bO => rw [eL, if_neg h, jZ, bO]; simp; omega
def iz (lt : Int × Int → Int × Int → Bool) (l : List (Int × Int)) : List (Int × Int) :=
 if h : l.length < 2 then l else eL lt (iz lt (l.take (l.length / 2))) (iz lt (l.drop (l.length / 2)))
termination_by l.length
decreasing_by all_goals (simp; omega)
theorem DC (lt : Int × Int → Int × Int → Bool) : ∀ (N : Nat) (l : List (Int × Int)), l.length ≤ N → (iz lt l).length = l.length
 | 0, l, h => by rw [iz, dif_pos (by omega)]
 | N + 1, l, h => by
  rw [iz]
  split
  ·rfl
  ·rw [Ho, DC lt N _ (by simp; omega), DC lt N _ (by simp; omega)];simp; omega
end Go.Proofs.YtbcecodakfejaaaGreat
namespace Go.Proofs.YtbcecodakfejaaaGreat
open Go.RowKit
structure I1 where
 v : Value
 n : Nat
 xs : List Value
section
variable {P : Program} {B pU : eP} {A dH : Nat → Prop} {s s' : az} {ad : Nat → Nat} {a : Act} {w w' : World}
theorem Rel.xR (h : Rel B A s ad a w) (c8 : ∀ b, A b → b < w.heap.size → dH b ∧ w'.heap[b]? = w.heap[b]?) (cB : ∀ k cs, s.mem k = some cs → w'.heap[ad k]? = w.heap[ad k]? ∧ ¬ pU.F (ad k)) (Xf : jO pU w') (GI : ∀ b, pU.W.heap.size ≤ b → dH b) (FU : tM pU s ad) (uE : pU.marks = B.marks := by rfl) : Rel pU dH s ad a w' := by
 have Md : ∀ b, s.free A ad b → b < w.heap.size → s.free dH ad b ∧ w'.heap[b]? = w.heap[b]? := fun b ab hl => ⟨⟨(c8 b ab.1 hl).1, ab.2⟩, (c8 b ab.1 hl).2⟩;refine ⟨h.pC.trans uE.symm, h.size, fun t av ax => ?_, fun k cs af => ?_, h.inj, Xf, GI, FU⟩
 ·obtain ⟨v, h1, h2⟩ := h.gE t av ax;exact ⟨v, h1, h2.map Md fun _ _ => rfl⟩
 ·obtain ⟨vs, ty, h1, h2, h3⟩ := h.dt k cs af;exact ⟨vs, ty, by rw [(cB k cs af).1]; exact h1, h2.map Md fun _ _ _ _ => rfl, (cB k cs af).2⟩
theorem Rel.Qy {d : Nat} {av bv : ah} (h : Rel B A s ad a w) (hd : s.tmps d = some bv) (hv : ∀ v, a.tmps[d]? = some v → cR (s.free A ad) ad w bv v → cR (s.free A ad) ad w av v) : Rel B A (s.put (some d) av) ad a w := by
 refine ⟨h.pC, h.size, fun t cv ax => ?_, h.dt, h.inj, h.below, h.up, h.jS⟩;simp only [az.put] at ax
 by_cases e : t = d
 ·subst e;rw [cf] at ax;cases ax;obtain ⟨v, h1, h2⟩ := h.gE t bv hd;exact ⟨v, h1, hv v h1 h2⟩
 ·rw [b3 _ _ e] at ax;exact h.gE t cv ax
def mI (B : eP) (s : az) (ad : Nat → Nat) (w : World) : eP := ⟨w, fun b => b < w.heap.size ∧ ∀ k cs, s.mem k = some cs → ad k ≠ b, fun _ h => h.1, fun k => if s.n ≤ k then some (ad k) else none, B.marks⟩
theorem wa {B : eP} (s : az) (ad : Nat → Nat) (w : World) : tM (mI B s ad w) s ad := fun k b af => by
 simp only [mI] at af
 split at af
 ·rename_i h; exact ⟨h, lP af⟩
 ·cases af
theorem Ut {bo : eP} {s s' : az} {ad aY : Nat → Nat} {w w' : World} {A : Nat → Prop} {a' : Act} (h : tM bo s ad) (cg : Rel (mI bo s ad w) A s' aY a' w') : tM bo s' aY := fun k b af => by
 obtain ⟨h1, h2⟩ := h k b af;obtain ⟨h3, aE⟩ := cg.jS k (ad k) (by simp [mI, h1]);exact ⟨h3, aE.trans h2⟩
theorem Rel.hot (h : Rel B A s ad a w) (GI : ∀ b, w.heap.size ≤ b → A b) : Rel (mI B s ad w) A s ad a w :=
 h.xR (fun b h _ => ⟨h, rfl⟩) (fun k cs af => ⟨rfl, fun ap => ap.2 k cs af rfl⟩) (jO.refl _) GI (wa _ _ _)
theorem Pd {base : Nat} {e : TypeId} {sz : Nat} {v : Value} {n : Nat} {xs : List Value} (h : w.ownsRow base e sz v n xs) (ao : ∀ g, v.ownBlock = some g → w'.heap[g]? = w.heap[g]?) : w'.ownsRow base e sz v n xs := by
 refine ⟨h.1, ?_⟩;rcases h.2 with au | ⟨g, cap, cur, rfl, ab, sY, rest⟩
 ·exact .inl au
 ·exact .inr ⟨g, cap, cur, rfl, ab, (ao g rfl).trans sY, rest⟩
end
section
variable {P : Program} {e sz : Nat} {t : I1} {s : az} {Q : Exit → I1 → az → Prop} {x y c : Code}
theorem QQ (w : World) (base : Nat) (t ty e : TypeId) (i : TypeInfo) (z : Value) (size bytes : Nat) (ax : P.underlying t = some (.slice e)) (hi : P.info? e = some i) (aI : i.zero = some z)
  (hf : i.size = size) (kG : i.bytes = bytes) (ot : z.cells.size = size) (bB : 0 < size)
  (v : Value) (n : Nat) (xs : List Value) (cB : w.ownsRow base e size v n xs)
  (a : Addr) (m c : Nat) (news : List Value) (hl : news.length = m * size) (kJ : ∀ j u, news[j]? = some u → w.cell? (a.add j) = some u) (h1 : ∀ u ∈ news, u.oneCell' = true)
  (FC : n + m ≤ maxLen) (FY : (n + m) * bytes ≤ 140737488355328) (mI : base ≤ w.heap.size) (hm : 0 < m) :
  ∃ v' w', (Builtin.append_ #[t, t] ty #[v, .slice (some a) m c]).run P w = .ok v' w' ∧ w'.ownsRow base e size v' (n + m) (xs ++ news) ∧ w.grownBy w' v.ownBlock ∧ (∀ g, v'.ownBlock = some g → v.ownBlock = some g ∨ w.heap.size ≤ g) ∧ v'.oneCell' = true := by
 obtain ⟨v', w', al, h2, h3, aE⟩ := run_append_own (P := P) w base t ty e i z size bytes ax hi aI hf kG ot bB v n xs cB a m c news hl kJ h1 FC FY mI;refine ⟨v', w', al, h2, h3, ?_, ?_⟩
 ·have ahH : n + m ≤ 9223372036854775807 := by simp only [maxLen] at FC; omega
  rcases cB.2 with ⟨rfl, rfl⟩ | ⟨g, cap, cur, rfl, ql, ao, eI, ju, ej, nF⟩
  ·have aa : xs = [] := j3 (by simpa using cB.1);subst aa;have := run_append_nil (P := P) w t ty e i z ax hi aI a m c news (by rw [hf]; exact hl) kJ hm (by omega) (by rw [kG]; simp only [jj] at FY; omega);rw [this] at al;cases al;intro g ao;simp [Value.ownBlock] at ao;exact .inr (by omega)
  ·by_cases k9 : n + m ≤ cap
   ·have wm : n * i.size + news.length ≤ cur.size := by rw [hf, hl, ej, ← j0]; exact j1 _ k9
    have := run_append_room (P := P) w t ty e i ax hi g n cap cur ao a m c news (by rw [hf]; exact hl) kJ h1 k9 wm;rw [this] at al;cases al;intro jb dX;exact .inl dX
   ·have holds : ∀ j u, xs[j]? = some u → w.cell? ((⟨g, 0, none⟩ : Addr).add j) = some u := cB.cells (g := g) rfl;have := run_append_grow (P := P) w t ty e i z ax hi aI ⟨g, 0, none⟩ n cap xs (by rw [hf]; exact cB.1) holds a m c news (by rw [hf]; exact hl) kJ (by omega) (by omega) (growslice_fits (by omega) (by rw [kG]; exact FY));rw [this] at al;cases al;intro jb dX;simp [Value.ownBlock] at dX;exact .inr (by omega)
 ·rcases h2.2 with ⟨rfl, _⟩ | ⟨g, cap, cur, rfl, _⟩ <;> rfl
def vc (P : Program) (tt e sz bytes : Nat) : Bool := match P.underlying tt, P.info? e with
 | some (.slice bm), some i => match i.zero with
  | some z => Nat.beq bm e && Nat.beq i.size sz && Nat.beq i.bytes bytes && Nat.beq z.cells.size sz && Nat.blt 0 sz
  | none => false
 | _, _ => false
class l0 (P : Program) (tt : TypeId) (e sz bytes : outParam Nat) : Prop where
 h : vc P tt e sz bytes = true
theorem qP {tt e sz bytes : Nat} (h : vc P tt e sz bytes = true) : ∃ (i : TypeInfo) (z : Value), P.underlying tt = some (.slice e) ∧ P.info? e = some i ∧ i.zero = some z ∧ i.size = sz ∧ i.bytes = bytes ∧ z.cells.size = sz ∧ 0 < sz := by
 unfold vc at h
 split at h
 ·rename_i bm i hu hi
  split at h
  ·rename_i z aI;simp only [dx] at h;obtain ⟨⟨⟨⟨h1, h2⟩, h3⟩, aE⟩, cZ⟩ := h;rw [gl h1] at hu;exact ⟨i, z, hu, hi, aI, gl h2, gl h3, gl aE, by simpa [Nat.blt_eq] using cZ⟩
  ·cases h
 ·cases h
end
structure bz where
 e : Nat
 sz : Nat
 v : Value
 n : Nat
 aO : List AC
abbrev aG := Nat → Option bz
def fO : aG := fun _ => none
def bw (i : Nat) (r : bz) : aG := bA fO i r
def bt (R aw : aG) : Prop := ∀ i r, R i = some r → aw i = some r
theorem bt.refl (R : aG) : bt R R := fun _ _ h => h
theorem ms (f : aG) (i : Nat) (r : bz) : bt (bw i r) (bA f i r) := by
 intro j q h
 by_cases e : j = i
 ·subst e; rw [bw, cf] at h; rw [cf]; exact h
 ·rw [bw, b3 _ _ e] at h; cases h
def jn (v : Value) (off : Nat) : Value := match v with
 | .slice (some a) _ _ => .pointer (some (a.add off))
 | _ => .pointer none
def gD (v : Value) (z lo hi : Nat) : Value := match v with
 | .slice A _ c => sliced A lo hi c z
 | _ => v
def bz.own (r : bz) (b : Nat) : Prop := r.v.ownBlock = some b ∨ (r.sz = 0 ∧ ∃ S w, r.aO = [.p S] ∧ S.holds w r.v ∧ S.kE w r.v b)
def bz.ok (U : Nat → Prop) (ad : Nat → Nat) (w : World) (r : bz) : Prop :=
 (0 < r.sz ∧ ∃ xs, w.ownsRow 0 r.e r.sz r.v r.n xs ∧ bH U ad w r.aO xs) ∨ (r.sz = 0 ∧ r.n = 0 ∧ r.v.ownBlock = none ∧ (∃ S, r.aO = [.p S] ∧ S.holds w r.v) ∧ ∀ b, r.own b → b < w.heap.size)
theorem bz.oA {r : bz} {b : Nat} (h : r.own b) (hs : 0 < r.sz) : r.v.ownBlock = some b := by
 rcases h with h | ⟨h, _⟩
 ·exact h
 ·omega
theorem bz.ok.row {U : Nat → Prop} {ad : Nat → Nat} {w : World} {r : bz} (h : r.ok U ad w) (hs : 0 < r.sz) : ∃ xs, w.ownsRow 0 r.e r.sz r.v r.n xs ∧ bH U ad w r.aO xs := by
 rcases h with ⟨_, h⟩ | ⟨h, _⟩
 ·exact h
 ·omega
theorem bz.ok.pos {U : Nat → Prop} {ad : Nat → Nat} {w : World} {r : bz} (h : r.ok U ad w) (au : 0 < r.n) : 0 < r.sz := by
 rcases h with ⟨h, _⟩ | ⟨_, h, _⟩
 ·exact h
 ·omega
theorem bz.ok.lt {U : Nat → Prop} {ad : Nat → Nat} {w : World} {r : bz} (h : r.ok U ad w) {g : Nat} (ao : r.own g) : g < w.heap.size := by
 rcases h with ⟨hs, xs, ay, _⟩ | ⟨_, _, _, _, h⟩
 ·exact (ay.lt g (ao.elim id fun h => by omega)).2
 ·exact h g ao
theorem bz.ok.kept {U cq : Nat → Prop} {ad aY : Nat → Nat} {w w' : World} {r : bz} (h : r.ok U ad w) (aj : ∀ y ∈ r.aO, y.aV = true) (af : ∀ g, r.own g → w'.heap[g]? = w.heap[g]?) (bB : w.heap.size ≤ w'.heap.size) (c8 : ∀ b, U b → b < w.heap.size → cq b ∧ w'.heap[b]? = w.heap[b]?) : r.ok cq aY w' := by
 rcases h with ⟨hs, xs, ay, hl⟩ | ⟨hs, au, hv, ⟨S, hS, aR⟩, a8⟩
 ·exact .inl ⟨hs, xs, Pd ay fun g q => af g (.inl q), hl.map c8 fun j x aa ae => absurd ae (AC.dd (aj x aa) j)⟩
 ·exact .inr ⟨hs, au, hv, ⟨S, hS, (S.frame w w' r.v aR fun b ab => af b (.inr ⟨hs, S, w, hS, aR, ab⟩)).1⟩, fun b ab => r1 (a8 b ab) bB⟩
structure tZ (bo : eP) (A : Nat → Prop) (s : az) (ad : Nat → Nat) (w : World) (r : bz) : Prop where
 ok : r.ok (s.free A ad) ad w
 o9 : ∀ y ∈ r.aO, y.aV = true
 own : ∀ g, r.own g → ¬ A g ∧ ∀ k cs, s.mem k = some cs → ad k ≠ g
theorem tZ.cells {bo : eP} {A : Nat → Prop} {s : az} {ad : Nat → Nat} {w : World} {r : bz} (h : tZ bo A s ad w r) (hs : 0 < r.sz) : ∃ xs, w.ownsRow 0 r.e r.sz r.v r.n xs ∧ bH (s.free A ad) ad w r.aO xs := h.ok.row hs
structure eo (bo : eP) (bG : Nat → Prop) (R : aG) (s : az) (a : Act) (w : World) (A : Nat → Prop) (ad : Nat → Nat) : Prop where
 up : ∀ b, bo.W.heap.size ≤ b → bG b
 sub : ∀ b, A b → bG b
 rel : Rel (mI bo s ad w) A s ad a w
 ov : ∀ k cs, s.mem k = some cs → ¬ bo.F (ad k)
 below : jO bo w
 rows : ∀ i r, R i = some r → tZ bo A s ad w r
 apart : ∀ i j r q, R i = some r → R j = some q → i ≠ j → ∀ g, r.own g → ¬ q.own g
 hot : ∀ i r g, R i = some r → r.own g → ¬ bo.F g ∧ bG g
 jS : tM bo s ad
def oY (bo : eP) (bG : Nat → Prop) (R : aG) (s : az) (a : Act) (w : World) : Prop := ∃ A ad, eo bo bG R s a w A ad
section
variable {P : Program} {bo : eP} {bG A : Nat → Prop} {R : aG} {s s' : az} {a a' : Act} {w w' : World} {ad aY : Nat → Nat} {o bl bq : Oper} {ops : Array Oper}
theorem bH.vK {U cq : Nat → Prop} {xs : List AC} {vs : List Value} (h : bH U ad w xs vs) (aj : ∀ y ∈ xs, y.aV = true) (c8 : ∀ b, U b → b < w.heap.size → cq b ∧ w'.heap[b]? = w.heap[b]?) : bH cq aY w' xs vs :=
 h.map c8 fun j x aa ae => absurd ae (AC.dd (aj x aa) j)
theorem eo.next (h : eo bo bG R s a w A ad) (cg : Rel (mI bo s ad w) A s' aY a' w') : eo bo bG R s' a' w' A aY := by
 have FZ : ∀ k cs, s'.mem k = some cs → w.heap.size ≤ aY k ∨ ∃ j cs, s.mem j = some cs ∧ ad j = aY k := by
  intro k cs af;obtain ⟨_, _, _, _, hF⟩ := cg.dt k cs af;rcases hM (aY k) w.heap.size with hl | hl
  ·exact .inr (Classical.byContradiction fun au => hF ⟨hl, fun j cs ae e => au ⟨j, cs, ae, e⟩⟩)
  ·exact .inl hl
 have jv : ∀ b, s.free A ad b → b < w.heap.size → s'.free A aY b ∧ w'.heap[b]? = w.heap[b]? := fun b ab hl => by
  refine ⟨⟨ab.1, fun k cs af e => ?_⟩, cg.below.block b ⟨hl, fun k cs af => ab.2 k cs af⟩⟩;rcases FZ k cs af with h1 | ⟨j, aq, ae, bm⟩
  ·omega
  ·exact ab.2 j aq ae (bm.trans e)
 refine ⟨h.up, h.sub, cg.hot fun b ab => cg.up b (h8 cg.below.size ab), fun k cs af ap => ?_, ⟨cg.below.os.trans h.below.os, cg.below.tape.trans h.below.tape, cg.below.output.trans h.below.output, h8 h.below.size cg.below.size, fun b ap => ?_⟩, fun i r hi => ?_, h.apart, h.hot, Ut h.jS cg⟩
 ·rcases FZ k cs af with h1 | ⟨j, aq, ae, e⟩
  ·have := bo.lt _ ap; have := h.below.size; omega
  ·rw [← e] at ap; exact h.ov j aq ae ap
 ·exact (cg.below.block b ⟨r1 (bo.lt b ap) h.below.size, fun k cs af e => h.ov k cs af (by rw [e]; exact ap)⟩).trans (h.below.block b ap)
 ·obtain ⟨k7, aj, ao⟩ := h.rows i r hi;refine ⟨k7.kept aj (fun g q => cg.below.block g ⟨k7.lt q, (ao g q).2⟩) cg.below.size jv, aj, fun g q => ⟨(ao g q).1, fun k cs af he => ?_⟩⟩;rcases FZ k cs af with h1 | ⟨j, aq, ae, e⟩
  ·have := k7.lt q; omega
  ·exact (ao g q).2 j aq ae (e.trans he)
theorem eo.put {d : Option Nat} {av : ah} {v : Value} (h : eo bo bG R s a w A ad) (hd : ∀ d', d = some d' → d' < s.n) (hv : cR (s.free A ad) ad w av v) : eo bo bG R (s.put d av) (a.put d v) w A ad := h.next (h.rel.put hd hv)
theorem eo.le {aw : aG} (h : eo bo bG R s a w A ad) (l : bt aw R) : eo bo bG aw s a w A ad :=
 ⟨h.up, h.sub, h.rel, h.ov, h.below, fun i r hi => h.rows i r (l i r hi), fun i j r q hi ae => h.apart i j r q (l i r hi) (l j q ae), fun i r g hi => h.hot i r g (l i r hi), h.jS⟩
theorem eo.NL (h : eo bo bG R s a w A ad) (l : s.aQ s') : eo bo bG R s' a w A ad := h.next (h.rel.le l)
inductive kw (P : Program) (R : aG) (look : Operand → Option ah) (o : Oper) : ah → Prop
 | len (i : Nat) (r : bz) (t z : Nat) (x : Operand) (hi : R i = some r) (bB : 0 < r.sz) (ay : o.op = .call ⟨.builtin .len, #[x], #[t]⟩) (aa : look x = some (aM r.v)) (ax : sb P t = some z) : kw P R look o (aB r.n)
 | idx (i : Nat) (r : bz) (t : Nat) (x y : Operand) (gx : IntKind) (j : Int) (hi : R i = some r) (ay : o.op = .indexAddr t x y) (aa : look x = some (aM r.v)) (ai : look y = some (aM (.int gx j))) (aA : 0 ≤ j) (h1 : j < r.n) (ax : sb P t = some r.sz) : kw P R look o (aM (jn r.v (j.toNat * r.sz)))
 | nx (i : Nat) (r : bz) (off t f hU : Nat) (x : Operand) (hi : R i = some r) (au : 0 < r.n) (ay : o.op = .fieldAddr t x f) (aa : look x = some (aM (jn r.v off))) (ax : sM P t f = some hU) : kw P R look o (aM (jn r.v (off + hU)))
 | load (i : Nat) (r : bz) (off lt : Nat) (x : Operand) (av : br) (hi : R i = some r) (au : 0 < r.n) (ay : o.op = .load lt x) (aa : look x = some (aM (jn r.v off))) (hv : pick P lt r.aO off = some av) : kw P R look o (.w av)
 | sl (i : Nat) (r : bz) (t lo hi : Nat) (x : Operand) (tK sd : Option Operand) (cP : R i = some r) (bB : 0 < r.sz) (ay : o.op = .slice t x tK sd none) (aa : look x = some (aM r.v)) (hl : (tK = none ∧ lo = 0 ∧ sd ≠ none) ∨ ∃ y, tK = some y ∧ look y = some (aM (.int .i64 lo))) (aR : (sd = none ∧ hi = r.n) ∨ ∃ y, sd = some y ∧ look y = some (aM (.int .i64 hi))) (h1 : lo ≤ hi) (h2 : hi ≤ r.n) (ax : sb P t = some r.sz) : kw P R look o (aM (gD r.v r.sz lo hi))
 | zc (i : Nat) (r : bz) (t z lo hi : Nat) (x : Operand) (cP : R i = some r) (bB : 0 < r.sz) (ay : o.op = .call ⟨.builtin .len, #[x], #[t]⟩) (aa : look x = some (aM (gD r.v r.sz lo hi))) (ax : sb P t = some z) : kw P R look o (aB ((hi - lo : Nat) : Int))
 | y1 (i : Nat) (r : bz) (t lo hi : Nat) (x y : Operand) (gx : IntKind) (j : Int) (cP : R i = some r) (ay : o.op = .indexAddr t x y) (aa : look x = some (aM (gD r.v r.sz lo hi))) (ai : look y = some (aM (.int gx j))) (aA : 0 ≤ j) (h1 : j < ((hi - lo : Nat) : Int)) (h2 : hi ≤ r.n) (ax : sb P t = some r.sz) : kw P R look o (aM (jn r.v ((lo + j.toNat) * r.sz)))
theorem kw.congr {look fY : Operand → Option ah} {av : ah} (h : kw P R look o av) (e : ∀ x ∈ o.op.operands, fY x = look x) : kw P R fY o av := by
 cases h with
 | len i r t z x hi bB ay aa ax => exact .len i r t z x hi bB ay (by rw [e x (by simp [ay, Op.operands, Call.operands])]; exact aa) ax
 | idx i r t x y gx j hi ay aa ai aA h1 ax => exact .idx i r t x y gx j hi ay (by rw [e x (by simp [ay, Op.operands])]; exact aa) (by rw [e y (by simp [ay, Op.operands])]; exact ai) aA h1 ax
 | nx i r off t f hU x hi au ay aa ax => exact .nx i r off t f hU x hi au ay (by rw [e x (by simp [ay, Op.operands])]; exact aa) ax
 | load i r off lt x av hi au ay aa hv => exact .load i r off lt x av hi au ay (by rw [e x (by simp [ay, Op.operands])]; exact aa) hv
 | sl i r t lo hi x tK sd cP bB ay aa hl aR h1 h2 ax =>
  refine .sl i r t lo hi x tK sd cP bB ay (by rw [e x (by simp [ay, Op.operands])]; exact aa) ?_ ?_ h1 h2 ax
  ·rcases hl with h | ⟨y, rfl, h⟩
   ·exact .inl h
   ·exact .inr ⟨y, rfl, by rw [e y (by simp [ay, Op.operands])]; exact h⟩
  ·rcases aR with h | ⟨y, rfl, h⟩
   ·exact .inl h
   ·exact .inr ⟨y, rfl, by rw [e y (by simp [ay, Op.operands])]; exact h⟩
 | zc i r t z lo hi x cP bB ay aa ax => exact .zc i r t z lo hi x cP bB ay (by rw [e x (by simp [ay, Op.operands, Call.operands])]; exact aa) ax
 | y1 i r t lo hi x y gx j cP ay aa ai aA h1 h2 ax => exact .y1 i r t lo hi x y gx j cP ay (by rw [e x (by simp [ay, Op.operands])]; exact aa) (by rw [e y (by simp [ay, Op.operands])]; exact ai) aA h1 h2 ax
theorem kw.rows {aw : aG} {look : Operand → Option ah} {av : ah} (h : kw P R look o av) (l : bt R aw) : kw P aw look o av := by
 cases h with
 | len i r t z x hi bB ay aa ax => exact .len i r t z x (l _ _ hi) bB ay aa ax
 | idx i r t x y gx j hi ay aa ai aA h1 ax => exact .idx i r t x y gx j (l _ _ hi) ay aa ai aA h1 ax
 | nx i r off t f hU x hi au ay aa ax => exact .nx i r off t f hU x (l _ _ hi) au ay aa ax
 | load i r off lt x av hi au ay aa hv => exact .load i r off lt x av (l _ _ hi) au ay aa hv
 | sl i r t lo hi x tK sd cP bB ay aa hl aR h1 h2 ax => exact .sl i r t lo hi x tK sd (l _ _ cP) bB ay aa hl aR h1 h2 ax
 | zc i r t z lo hi x cP bB ay aa ax => exact .zc i r t z lo hi x (l _ _ cP) bB ay aa ax
 | y1 i r t lo hi x y gx j cP ay aa ai aA h1 h2 ax => exact .y1 i r t lo hi x y gx j (l _ _ cP) ay aa ai aA h1 h2 ax
theorem ado {U : Nat → Prop} {ty : TypeId} {aO : List AC} {off : Nat} {av : br} {xs : List Value} {b : Addr} (hv : pick P ty aO off = some av) (hl : bH U ad w aO xs) (aj : ∀ j u, xs[j]? = some u → w.cell? (b.add j) = some u) :
  ∃ v, (loadVar ty (b.add off)).run P w = .ok v w ∧ fE U ad w av v := by
 unfold pick at hv
 have key : ∀ d, P.underlying ty = some d → ((∃ bc, d = .struct bc) ∨ ∃ n e, d = .array n e) → ((P.info? ty).bind fun i => if off + i.size ≤ aO.length then some (br.agg ((aO.drop off).take i.size)) else none) = some av → ∃ v, (loadVar ty (b.add off)).run P w = .ok v w ∧ fE U ad w av v := by
  intro d hu hd h;cases hi : P.info? ty with
  | none => rw [hi] at h; cases h
  | some i =>
   rw [hi] at h;simp only [j2] at h
   split at h
   ·rename_i hle;cases h;have hs := hl.sub off i.size;have hlen : ((xs.drop off).take i.size).length = i.size := by have := hl.1; simp; omega
    refine ⟨_, Ie hu hd hi hlen (fun j v ae => ?_), _, rfl, hs⟩;have iM : j < i.size := by rw [← hlen]; exact (bF.1 ae).1
    rw [fk iM, fC] at ae;rw [xM];exact aj _ v ae
   ·cases h
 have G6 : ∀ d, P.underlying ty = some d → (∀ bc, d ≠ .struct bc) → (∀ n e, d ≠ .array n e) → (aO[off]?).map br.one = some av → ∃ v, (loadVar ty (b.add off)).run P w = .ok v w ∧ fE U ad w av v := by
  intro d hu h1 h2 h;cases aa : aO[off]? with
  | none => rw [aa] at h; cases h
  | some x =>
   rw [aa] at h;cases h;have a8 : off < xs.length := by rw [← hl.1]; exact (bF.1 aa).1
   have hv := bQ a8;exact ⟨_, Ig hu h1 h2 (aj off _ hv), hl.2 off x _ aa hv⟩
 cases hu : P.underlying ty with
 | none => rw [hu] at hv; cases hv
 | some d =>
  rw [hu] at hv;cases d <;> first | exact key _ hu (.inl ⟨_, rfl⟩) hv | exact key _ hu (.inr ⟨_, _, rfl⟩) hv | exact G6 _ hu (fun _ h => by cases h) (fun _ _ h => by cases h) hv
theorem tZ.slice {r : bz} (h : tZ bo A s ad w r) (bB : 0 < r.sz) : ∃ eO c, r.v = .slice eO r.n c ∧ (0 < r.n → ∃ g, eO = some ⟨g, 0, none⟩) := by
 obtain ⟨xs, ay, _⟩ := h.cells bB;rcases ay.2 with ⟨e, cW⟩ | ⟨g, cap, cur, e, _⟩
 ·exact ⟨none, 0, by rw [e, cW], fun h => by omega⟩
 ·exact ⟨_, _, e, fun _ => ⟨g, rfl⟩⟩
theorem tZ.Dw {r : bz} (h : tZ bo A s ad w r) (bB : 0 < r.sz) : ∃ eO c, r.v = .slice eO r.n c ∧ r.n ≤ c ∧ (0 < r.n → ∃ g, eO = some ⟨g, 0, none⟩) := by
 obtain ⟨xs, ay, _⟩ := h.cells bB;rcases ay.2 with ⟨e, cW⟩ | ⟨g, cap, cur, e, _, _, eI, _⟩
 ·exact ⟨none, 0, by rw [e, cW], by omega, fun h => by omega⟩
 ·exact ⟨_, _, e, eI, fun _ => ⟨g, rfl⟩⟩
theorem QE {g n c z lo hi : Nat} (h1 : lo < hi) (h2 : hi ≤ c) : gD (.slice (some ⟨g, 0, none⟩) n c) z lo hi = .slice (some ((⟨g, 0, none⟩ : Addr).add (lo * z))) (hi - lo) (c - lo) := by
 unfold gD sliced;simp only;rw [if_neg (by omega)]; rfl
theorem kw.sound {av : ah} (h : kw P R s.look o av) (ar : eo bo bG R s a w A ad) : ∃ v, (execOp a.eval o).run P w = .ok (.value v) w ∧ cR (s.free A ad) ad w av v := by
 cases h with
 | len i r t z x hi bB ay aa ax =>
  obtain ⟨eO, c, e, _⟩ := (ar.rows i r hi).slice bB;have hv : a.eval x = r.v := (ar.rel.look aa).1;obtain ⟨el, ev, hu, _, _⟩ := mu ax;have eU : P.underlying t = some (.slice (P.elem t)) := by rw [kf hu]; exact hu
  refine ⟨.int .i64 r.n, ?_, rfl, rfl⟩;have em : (#[x] : Array Operand).map a.eval = #[.slice eO r.n c] := by simp [hv, e]
  simp only [execOp, ay, resolve, em, Sem.run_bind, Sem.run_pure, Result.andThen_ok, invoke, builtin];rw [run_len_slice w t _ eO r.n c eU];rfl
 | idx i r t x y gx j hi ay aa ai aA h1 ax =>
  obtain ⟨eO, c, e, dR⟩ := (ar.rows i r hi).slice ((ar.rows i r hi).ok.pos (by omega));obtain ⟨g, rfl⟩ := dR (by omega);have hv : a.eval x = r.v := (ar.rel.look aa).1;have ae : a.eval y = .int gx j := (ar.rel.look ai).1;obtain ⟨el, ev, hu, cP, hs⟩ := mu ax;refine ⟨jn r.v (j.toNat * r.sz), ?_, rfl, by rw [e]; rfl⟩;rw [e] at hv ⊢;simp only [execOp, ay, Instr.indexAt, hv, ae, asIntOf, Sem.run_bind, Sem.run_pure, Result.andThen_ok, run_underlying hu, ht cP, if_pos (And.intro aA h1), hs, jn]
 | nx i r off t f hU x hi au ay aa ax =>
  obtain ⟨eO, c, e, dR⟩ := (ar.rows i r hi).slice ((ar.rows i r hi).ok.pos (by omega));obtain ⟨g, rfl⟩ := dR au;have hv : a.eval x = jn r.v off := (ar.rel.look aa).1;rw [e] at hv ⊢;unfold sM at ax
  split at ax
  ·rename_i bc hu;cases ap : bc[f]? with
   | none => rw [ap] at ax; cases ax
   | some fd =>
    rw [ap] at ax;simp only [j2] at ax;cases hi : P.info? fd.type with
    | none => rw [hi] at ax; cases ax
    | some ev =>
     rw [hi] at ax;simp only [j2] at ax
     split at ax
     ·cases ax
     ·rename_i bX;cases ax;refine ⟨_, ?_, rfl, rfl⟩;simp only [execOp, ay, Instr.fieldAt, hv, jn, Instr.sureAddr, Sem.run_bind, Sem.run_pure, Result.andThen_ok, run_underlying hu, ap, fieldPlace, ht hi, if_neg bX, xM]
  ·cases ax
 | load i r off lt x av hi au ay aa hv =>
  have c3 := ar.rows i r hi;obtain ⟨eO, c, e, dR⟩ := c3.slice (c3.ok.pos au);obtain ⟨g, rfl⟩ := dR au;have B9 : a.eval x = jn r.v off := (ar.rel.look aa).1;obtain ⟨xs, gK, hl⟩ := c3.cells (c3.ok.pos au);obtain ⟨v, h1, h2⟩ := ado hv hl (gK.cells (g := g) (by rw [e]; rfl));rw [e] at B9;refine ⟨v, ?_, h2⟩;simp only [execOp, ay, Instr.loadAt, B9, jn, Instr.sureAddr, Sem.run_bind, Sem.run_pure, Result.andThen_ok, h1]
 | sl i r t lo hi x tK sd cP bB ay aa hl aR h1 h2 ax =>
  obtain ⟨eO, c, e, eI, _⟩ := (ar.rows i r cP).Dw bB;have hv : a.eval x = r.v := (ar.rel.look aa).1;rw [e] at hv;obtain ⟨el, ev, hu, eT, hs⟩ := mu ax;have eU : P.underlying t = some (.slice (P.elem t)) := by rw [kf hu]; exact hu
  have nD : (gD r.v r.sz lo hi).oneCell' = true := by rw [e]; rfl
  refine ⟨_, ?_, rfl, nD⟩;rw [e];rcases hl with ⟨rfl, rfl, bX⟩ | ⟨y, rfl, ai⟩
  ·rcases aR with ⟨rfl, _⟩ | ⟨y, rfl, ai⟩
   ·exact absurd rfl bX
   ·have kg : a.eval y = .int .i64 hi := (ar.rel.look ai).1;simp only [execOp, ay, hv, gC, r4, kg, Sem.run_bind, run_sliceAt_slice w t _ _ _ _ eU, run_slice_h w t eO r.n c eU .i64 hi (by omega) (by omega), kf hu, ht eT, Result.andThen_ok, hs, Sem.run_pure, ks, gD]
  ·have kg : a.eval y = .int .i64 lo := (ar.rel.look ai).1;rcases aR with ⟨rfl, rfl⟩ | ⟨y', rfl, YL⟩
   ·simp only [execOp, ay, hv, gC, r4, kg, Sem.run_bind, run_sliceAt_slice w t _ _ _ _ eU, run_slice_l w t eO r.n c eU .i64 lo (by omega) (by omega), kf hu, ht eT, Result.andThen_ok, hs, Sem.run_pure, ks, gD]
   ·have Wb : a.eval y' = .int .i64 hi := (ar.rel.look YL).1;simp only [execOp, ay, hv, gC, r4, kg, Wb, Sem.run_bind, run_sliceAt_slice w t _ _ _ _ eU, run_slice_lh w t eO r.n c eU .i64 .i64 lo hi (by omega) (by omega) (by omega), kf hu, ht eT, Result.andThen_ok, hs, Sem.run_pure, ks, gD]
 | zc i r t z lo hi x cP bB ay aa ax =>
  obtain ⟨eO, c, e, _, _⟩ := (ar.rows i r cP).Dw bB;have hv : a.eval x = gD r.v r.sz lo hi := (ar.rel.look aa).1;obtain ⟨el, ev, hu, _, _⟩ := mu ax;have eU : P.underlying t = some (.slice (P.elem t)) := by rw [kf hu]; exact hu
  refine ⟨.int .i64 ((hi - lo : Nat) : Int), ?_, rfl, rfl⟩;rw [e] at hv;unfold gD sliced at hv;simp only at hv;have em : (#[x] : Array Operand).map a.eval = #[.slice (if c = lo then eO else eO.map (·.add (lo * r.sz))) (hi - lo) (c - lo)] := by simp only [List.map_toArray, kQ, List.map_nil, hv]
  simp only [execOp, ay, resolve, em, Sem.run_bind, Sem.run_pure, Result.andThen_ok, invoke, builtin];rw [run_len_slice w t _ _ _ _ eU];rfl
 | y1 i r t lo hi x y gx j cP ay aa ai aA h1 h2 ax =>
  obtain ⟨eO, c, e, eI, dR⟩ := (ar.rows i r cP).Dw ((ar.rows i r cP).ok.pos (by omega));obtain ⟨g, rfl⟩ := dR (by omega);have hv : a.eval x = gD r.v r.sz lo hi := (ar.rel.look aa).1;have ae : a.eval y = .int gx j := (ar.rel.look ai).1;obtain ⟨el, ev, hu, eT, hs⟩ := mu ax;rw [e, QE (by omega) (by omega)] at hv;refine ⟨jn r.v ((lo + j.toNat) * r.sz), ?_, rfl, by rw [e]; rfl⟩;rw [e];simp only [execOp, ay, Instr.indexAt, hv, ae, asIntOf, Sem.run_bind, Sem.run_pure, Result.andThen_ok, run_underlying hu, ht eT, if_pos (And.intro aA h1), hs, jn, xM, j0]
theorem aew (w : World) (sG zS ty elem : TypeId) (g o qd x2 z : Nat) (a : Addr) (qQ zR : Nat) (cur : Array Value) (t : TypeId) (cs : List Value)
  (hu : P.underlying sG = some (.slice elem)) (hs : (P.info? elem).map (·.size) = some z)
  (ao : w.heap[g]? = some (.cells cur t (0, 0))) (au : cs.length = Nat.min qQ qd * z)
  (GF : ∀ j v, cs[j]? = some v → w.cell? (a.add j) = some v) (wm : o + cs.length ≤ cur.size) (h1 : ∀ v ∈ cs, v.oneCell' = true) :
  (Builtin.copy_ #[sG, zS] ty #[.slice (some ⟨g, o, none⟩) qd x2, .slice (some a) qQ zR]).run P w =
   .ok (goInt (Nat.min qQ qd)) (w.setRow g (cur.toList.take o ++ cs ++ cur.toList.drop (o + cs.length)).toArray) := by
 have hl := run_loadCells_list (P := P) w a cs GF;have iP := run_storeCells_at P g o t cs 0 cur w ao (by simpa using wm) h1;cases ak : P.info? elem with
 | none => simp [ak] at hs
 | some i =>
  have hi : i.size = z := by simpa [ak] using hs
  simp [Builtin.copy_, run_underlying hu, Builtin.lenOf, Builtin.firstCells, sizeOf, typeInfo, ak, hi, ← au, hl, iP]
theorem aev (w : World) (sG zS ty elem : TypeId) (d a : Option Addr) (qd x2 qQ zR z : Nat) (hu : P.underlying sG = some (.slice elem)) (hs : (P.info? elem).map (·.size) = some z) (au : Nat.min qQ qd = 0) :
  (Builtin.copy_ #[sG, zS] ty #[.slice d qd x2, .slice a qQ zR]).run P w = .ok (goInt 0) w := by
 cases ak : P.info? elem with
 | none => simp [ak] at hs
 | some i =>
  have hl : ∀ (x : Addr), (loadCells x 0).run P w = .ok #[] w := fun x => by simpa using run_loadCells_list (P := P) w x [] (by simp)
  cases d <;> cases a <;> simp [Builtin.copy_, run_underlying hu, Builtin.lenOf, Builtin.firstCells, sizeOf, typeInfo, ak, au, storeCells, hl]
theorem afF {cur us : List Value} {off N : Nat} (h : off + us.length ≤ N) (eC : N ≤ cur.length) : (cur.take off ++ us ++ cur.drop (off + us.length)).take N = (cur.take N).take off ++ us ++ (cur.take N).drop (off + us.length) := by
 apply List.ext_getElem?;intro j;have t1 : (cur.take off).length = off := by rw [dS]; omega
 have t2 : ((cur.take N).take off).length = off := by rw [dS, dS]; omega
 by_cases ae : j < N
 ·rw [fk ae]
  by_cases qu : j < off
  ·rw [gQ, fK (by rw [t1]; exact qu), fk qu, gQ, fK (by rw [t2]; exact qu), fk qu, fk ae]
  ·by_cases Ci : j < off + us.length
   ·rw [gQ, gm (by omega), fK (by omega), gQ, gm (by omega), fK (by omega), t1, t2]
   ·rw [gm (by simp only [cx, t1]; omega), gm (by simp only [cx, t2]; omega), fC, fC];simp only [cx, t1, t2];rw [fk (by omega)]
 ·rw [lQ (by rw [dS]; omega), lQ];simp only [cx, dS, hN];omega
abbrev AD : Value → Prop := fun v => v.oneCell' = true
def iE (v : Value) (z lo hi : Nat) (u : Value) : Prop := (∃ eO c, u = .slice eO (hi - lo) c) ∧ (lo < hi → ∃ g n c, v = .slice (some ⟨g, 0, none⟩) n c ∧ hi ≤ c ∧ u = .slice (some ⟨g, lo * z, none⟩) (hi - lo) (c - lo))
theorem AO (g o k : Nat) : (⟨g, o, none⟩ : Addr).add k = ⟨g, o + k, none⟩ := by unfold Addr.add; split <;> simp_all
theorem iE.all {A : Option Addr} {n c : Nat} (z : Nat) (h1 : n ≤ c) (h2 : 0 < n → ∃ g, A = some ⟨g, 0, none⟩) : iE (.slice A n c) z 0 n (.slice A n c) :=
 ⟨⟨A, c, rfl⟩, fun h => by obtain ⟨g, rfl⟩ := h2 h; exact ⟨g, n, c, rfl, h1, by simp⟩⟩
theorem iE.sl {v u : Value} {z lo hi k m : Nat} (h : iE v z lo hi u) (hm : hi - lo = m) (af : k ≤ m) (hl : lo ≤ hi) : iE v z (lo + k) hi (gD u z k m) := by
 subst hm;obtain ⟨⟨eO, c, e⟩, h2⟩ := h;refine ⟨⟨_, _, by rw [e]; unfold gD sliced; rw [Nat.sub_sub]⟩, fun a8 => ?_⟩;obtain ⟨g, n, c', aF, h3, aN⟩ := h2 (by omega);refine ⟨g, n, c', aF, h3, ?_⟩;rw [aN];unfold gD sliced;simp only;rw [if_neg (by omega), gC, AO, Nat.sub_sub, Nat.sub_sub, j0]
theorem iE.afg {v u : Value} {z lo hi k : Nat} (h : iE v z lo hi u) (af : lo + k ≤ hi) : iE v z lo (lo + k) (gD u z 0 k) := by
 obtain ⟨⟨eO, c, e⟩, h2⟩ := h;refine ⟨⟨_, _, by rw [e]; unfold gD sliced; rw [show lo + k - lo = k - 0 by omega]⟩, fun a8 => ?_⟩;obtain ⟨g, n, c', aF, h3, aN⟩ := h2 (by omega);refine ⟨g, n, c', aF, by omega, ?_⟩;rw [aN];unfold gD sliced;simp only;rw [if_neg (by omega), gC, AO];simp
def Ap (R : aG) (look : Operand → Option ah) (y : Operand) (z m : Nat) (news : List AC) : Prop :=
 look y = some (cz z m news) ∨ ∃ j q lo u, R j = some q ∧ q.sz = z ∧ look y = some (aM u) ∧ iE q.v z lo (lo + m) u ∧ lo + m ≤ q.n ∧ news = (q.aO.drop (lo * z)).take (m * z)
inductive kx (P : Program) (R : aG) (look : Operand → Option ah) (o : Oper) : (Value → aG) → (Value → Prop) → Prop
 | sC (i : Nat) (r : bz) (tt bytes m : Nat) (gS hz : Operand) (news : List AC) (hi : R i = some r) (ay : o.op = .call ⟨.builtin .append, #[gS, hz], #[tt, tt]⟩) (ax : vc P tt r.e r.sz bytes = true) (aa : look gS = some (aM r.v)) (ai : look hz = some (cz r.sz m news)) (h1 : r.n + m ≤ maxLen) (h2 : (r.n + m) * bytes ≤ 140737488355328) (aj : ∀ y ∈ news, y.aV = true) :
   kx P R look o (fun v' => bA R i ⟨r.e, r.sz, v', r.n + m, r.aO ++ news⟩) AD
 | new (i t n e sz bytes : Nat) (parts : List (Nat × Operand)) (vs : List Value) (zs : List (Nat × br)) (r : List AC) (hi : R i = none) (ay : o.op = .buildSlice t n parts.toArray) (ax : vc P t e sz bytes = true) (dD : w9 P t = some vs) (aI : mf look parts = some zs) (ab : o7 (u7 n sz) (hA n sz vs) zs = some r)
   (h1 : (vs.all fun v => v.oneCell') = true) (hs : vs.length = sz) (h2 : n * sz ≤ 16777216) (h3 : n ≤ maxLen) (al : r.length = n * sz) (cA : ∀ y ∈ r, y.aV = true) : kx P R look o (fun v' => bA R i ⟨e, sz, v', n, r⟩) AD
 | make (i t l c e sz bytes : Nat) (x y : Operand) (ou pA : IntKind) (vs : List Value) (hi : R i = none) (ay : o.op = .makeSlice t x y) (ax : vc P t e sz bytes = true) (dD : w9 P t = some vs) (aa : look x = some (aM (.int ou l))) (ai : look y = some (aM (.int pA c))) (hl : l ≤ c) (h1 : (vs.all fun v => v.oneCell') = true) (hs : vs.length = sz) (h2 : bytes * c ≤ 281474976710656) (h3 : c ≤ maxLen) : kx P R look o (fun v' => bA R i ⟨e, sz, v', l, hA l sz vs⟩) AD
 | copy (i : Nat) (r : bz) (tt t2 m lo hi : Nat) (x y : Operand) (news : List AC) (cP : R i = some r) (bB : 0 < r.sz) (ay : o.op = .call ⟨.builtin .copy, #[x, y], #[tt, t2]⟩) (ax : sb P tt = some r.sz) (aa : (look x = some (aM r.v) ∧ lo = 0 ∧ hi = r.n) ∨ look x = some (aM (gD r.v r.sz lo hi)) ∨ ∃ u, look x = some (aM u) ∧ iE r.v r.sz lo hi u) (ai : Ap R look y r.sz m news) (h1 : lo ≤ hi) (h2 : hi ≤ r.n) (aj : ∀ y ∈ news, y.aV = true) :
   kx P R look o (fun _ => bA R i ⟨r.e, r.sz, r.v, r.n, eu r.aO (lo * r.sz) (news.take (Nat.min m (hi - lo) * r.sz))⟩) (fun v' => v' = .int .i64 ((Nat.min m (hi - lo) : Nat) : Int))
theorem NS {look fY : Operand → Option ah} : ∀ (parts : List (Nat × Operand)), (∀ p ∈ parts, fY p.2 = look p.2) → mf fY parts = mf look parts
 | [], _ => rfl
 | (i, x) :: parts, h => by
  simp only [mf];rw [h (i, x) (by simp), NS parts fun p hp => h p (by simp [hp])]
theorem kx.congr {look fY : Operand → Option ah} {f : Value → aG} {iu : Value → Prop} (h : kx P R look o f iu) (e : ∀ x ∈ o.op.operands, fY x = look x) : kx P R fY o f iu := by
 cases h with
 | sC i r tt bytes m gS hz news hi ay ax aa ai h1 h2 aj =>
  exact .sC i r tt bytes m gS hz news hi ay ax (by rw [e gS (by simp [ay, Op.operands, Call.operands])]; exact aa) (by rw [e hz (by simp [ay, Op.operands, Call.operands])]; exact ai) h1 h2 aj
 | new i t n el sz bytes parts vs zs r hi ay ax dD aI ab h1 hs h2 h3 al cA =>
  refine .new i t n el sz bytes parts vs zs r hi ay ax dD ?_ ab h1 hs h2 h3 al cA;rw [NS parts fun p hp => e p.2 ?_]
  ·exact aI
  ·simp only [ay, Op.operands, List.mem_toArray, h9];exact ⟨p, hp, rfl⟩
 | make i t l c el sz bytes x y ou pA vs hi ay ax dD aa ai hl h1 hs h2 h3 =>
  exact .make i t l c el sz bytes x y ou pA vs hi ay ax dD (by rw [e x (by simp [ay, Op.operands])]; exact aa) (by rw [e y (by simp [ay, Op.operands])]; exact ai) hl h1 hs h2 h3
 | copy i r tt t2 m lo hi x y news cP bB ay ax aa ai h1 h2 aj =>
  exact .copy i r tt t2 m lo hi x y news cP bB ay ax (by rw [e x (by simp [ay, Op.operands, Call.operands])]; exact aa) (by unfold Ap; rw [e y (by simp [ay, Op.operands, Call.operands])]; exact ai) h1 h2 aj
theorem bH.append {U : Nat → Prop} {xs aO : List AC} {vs us : List Value} (h : bH U ad w xs vs) (k : bH U ad w aO us) : bH U ad w (xs ++ aO) (vs ++ us) := by
 refine ⟨by rw [cx, cx, h.1, k.1], fun i x v aa hv => ?_⟩;rcases hM i xs.length with hl | hl
 ·rw [fK hl] at aa;rw [fK (by rw [← h.1]; exact hl)] at hv;exact h.2 i x v aa hv
 ·rw [gm hl] at aa;rw [gm (by rw [← h.1]; exact hl), ← h.1] at hv;exact k.2 _ x v aa hv
theorem eo.Fx {i : Nat} {r : bz} {w2 : World} {xs : List Value} (h : eo bo bG R s a w A ad) (h7 : Option Nat) (hold : ∀ g, h7 = some g → ∃ q, R i = some q ∧ q.own g) (bB : 0 < r.sz) (iL : w.grownBy w2 h7)
  (al : w2.ownsRow 0 r.e r.sz r.v r.n xs) (k4 : ∀ g, r.v.ownBlock = some g → h7 = some g ∨ w.heap.size ≤ g) (hl : bH (s.free A ad) ad w r.aO xs) (aj : ∀ y ∈ r.aO, y.aV = true) :
  ∃ dH, eo bo bG (bA R i r) s a w2 dH ad := by
 have pr : ∀ b, s.free A ad b → b < w.heap.size → w2.heap[b]? = w.heap[b]? := fun b ab e0 => iL.block b e0 fun e => by
  obtain ⟨q, ak, ao⟩ := hold b e.symm;exact ((h.rows i q ak).own b ao).1 ab.1
 have pq : ∀ k cs, s.mem k = some cs → w2.heap[ad k]? = w.heap[ad k]? := fun k cs af => iL.block _ (h.rel.lt af) fun e => by
  obtain ⟨q, ak, ao⟩ := hold _ e.symm;exact ((h.rows i q ak).own _ ao).2 k cs af rfl
 have WM : Rel (mI bo s ad w2) (fun b => (A b ∧ b < w.heap.size) ∨ (w2.heap.size ≤ b)) s ad a w2 :=
  h.rel.xR (fun b c0 e0 => ⟨.inl ⟨c0, e0⟩, iL.block b e0 fun e => by
   obtain ⟨q, ak, ao⟩ := hold b e.symm;exact ((h.rows i q ak).own b ao).1 c0⟩) (fun k cs af => ⟨pq k cs af, fun ap => ap.2 k cs af rfl⟩) (jO.refl _) (fun b ab => .inr ab) (wa _ _ _)
 have jv : ∀ b, s.free A ad b → b < w.heap.size → s.free (fun b => (A b ∧ b < w.heap.size) ∨ w2.heap.size ≤ b) ad b ∧ w2.heap[b]? = w.heap[b]? := fun b ab e0 => ⟨⟨.inl ⟨ab.1, e0⟩, ab.2⟩, pr b ab e0⟩
 have main : eo bo bG (bA R i r) s a w2 (fun b => (A b ∧ b < w.heap.size) ∨ w2.heap.size ≤ b) ad := by
  refine ⟨h.up, ?_, WM, h.ov, ⟨iL.os.trans h.below.os, iL.tape.trans h.below.tape, iL.output.trans h.below.output, h8 h.below.size iL.size, fun b ap => ?_⟩, fun j q ae => ?_, fun j k q cd ae af kn g ao => ?_, fun j q g ae ao => ?_, h.jS⟩
  ·rintro b (ab | ab)
   ·exact h.sub b ab.1
   ·exact h.up b (by have := h.below.size; have := iL.size; omega)
  ·refine (iL.block b (r1 (bo.lt b ap) h.below.size) fun e => ?_).trans (h.below.block b ap);obtain ⟨q, ak, ao⟩ := hold b e.symm;exact (h.hot i q b ak ao).1 ap
  ·by_cases e : j = i
   ·subst e;rw [cf] at ae;cases ae;refine ⟨.inl ⟨bB, xs, al, hl.vK aj jv⟩, aj, fun g ao => ?_⟩
    replace ao := bz.oA ao bB
    refine ⟨?_, fun k cs af => ?_⟩
    ·rintro (ab | ab)
     ·rcases k4 g ao with q | q
      ·obtain ⟨p, hp, pt⟩ := hold g q;exact ((h.rows j p hp).own g pt).1 ab.1
      ·omega
     ·have := (al.lt g ao).2; omega
    ·rcases k4 g ao with q | q
     ·obtain ⟨p, hp, pt⟩ := hold g q;exact ((h.rows j p hp).own g pt).2 k cs af
     ·have := h.rel.lt af; omega
   ·rw [b3 _ _ e] at ae;obtain ⟨k7, MY, MZ⟩ := h.rows j q ae;refine ⟨k7.kept MY (fun g ao => iL.block g (k7.lt ao) fun bm => ?_) iL.size jv, MY, fun g ao => ⟨?_, (MZ g ao).2⟩⟩
    ·obtain ⟨p, hp, pt⟩ := hold g bm.symm;exact h.apart j i q p ae hp e g ao pt
    ·rintro (ab | ab)
     ·exact (MZ g ao).1 ab.1
     ·have := k7.lt ao; have := iL.size; omega
  ·have O3 : ∀ j q, R j = some q → ∀ g, q.own g → g < w.heap.size := fun j q ae g ao => (h.rows j q ae).ok.lt ao
   by_cases e : j = i
   ·subst e;rw [cf] at ae;cases ae;rw [b3 _ _ (Ne.symm kn)] at af;intro dX;rcases k4 g (bz.oA ao bB) with p | p
    ·obtain ⟨ft, hp, pt⟩ := hold g p;exact h.apart j k ft cd hp af kn g pt dX
    ·have := O3 k cd af g dX; omega
   ·rw [b3 _ _ e] at ae
    by_cases aN : k = i
    ·subst aN;rw [cf] at af;cases af;intro dX;rcases k4 g (bz.oA dX bB) with p | p
     ·obtain ⟨ft, hp, pt⟩ := hold g p;exact h.apart j k q ft ae hp kn g ao pt
     ·have := O3 j q ae g ao; omega
    ·rw [b3 _ _ aN] at af;exact h.apart j k q cd ae af kn g ao
  ·by_cases e : j = i
   ·subst e;rw [cf] at ae;cases ae;rcases k4 g (bz.oA ao bB) with p | p
    ·obtain ⟨ft, hp, pt⟩ := hold g p;exact h.hot j ft g hp pt
    ·exact ⟨fun ap => by have := bo.lt g ap; have := h.below.size; omega, h.up g (by have := h.below.size; omega)⟩
   ·rw [b3 _ _ e] at ae;exact h.hot j q g ae ao
 exact ⟨_, main⟩
theorem eo.grown {i : Nat} {r : bz} {w2 : World} {xs : List Value} (h : eo bo bG R s a w A ad) (h7 : Option Nat) (hold : ∀ g, h7 = some g → ∃ q, R i = some q ∧ q.own g) (bB : 0 < r.sz) (iL : w.grownBy w2 h7) (nD : r.v.oneCell' = true)
  (al : w2.ownsRow 0 r.e r.sz r.v r.n xs) (k4 : ∀ g, r.v.ownBlock = some g → h7 = some g ∨ w.heap.size ≤ g) (hl : bH (s.free A ad) ad w r.aO xs) (aj : ∀ y ∈ r.aO, y.aV = true) {d : Nat} (hd : d < s.n) :
  ∃ dH, eo bo bG (bA R i r) (s.put (some d) (aM r.v)) (a.put (some d) r.v) w2 dH ad := by
 obtain ⟨dH, main⟩ := h.Fx h7 hold bB iL al k4 hl aj;exact ⟨dH, main.put (d := some d) (fun d' e => by cases e; exact hd) ⟨rfl, nD⟩⟩
theorem cl.EQ {U : Nat → Prop} {z n : Nat} {xs : List AC} {v : Value} (h : cR U ad w (cz z n xs) v) (au : 0 < n) : ∃ b c vs, v = .slice (some b) n c ∧ n ≤ c ∧ xs.length = n * z ∧ (∀ (j : Nat) u, vs[j]? = some u → w.cell? (b.add j) = some u) ∧ bH U ad w xs vs := by
 obtain ⟨⟨eO, c, e, aj, hl, dR⟩, c8⟩ := h;obtain ⟨b, vs, rfl, ej⟩ := dR au;exact ⟨b, c, vs, e, aj, hl, ej.at_, ej.Ib fun bK c0 => c8 bK ⟨c, b, e, au, c0⟩⟩
theorem Ap.spec {y : Operand} {z m : Nat} {news : List AC} (h : Ap R s.look y z m news) (aI : 0 < z) (ar : eo bo bG R s a w A ad) : (∃ tN x1, a.eval y = .slice tN m x1) ∧ news.length = m * z ∧
  (0 < m → ∃ b c vs, a.eval y = .slice (some b) m c ∧ (∀ (j : Nat) u, vs[j]? = some u → w.cell? (b.add j) = some u) ∧ bH (s.free A ad) ad w news vs) := by
 rcases h with ai | ⟨j, q, lo, u, ae, rfl, ai, ⟨⟨eO, c, rp⟩, hu⟩, au, rfl⟩
 ·have yX := ar.rel.look ai;obtain ⟨⟨tN, x1, ex, BJ, kI, WQ⟩, W5⟩ := id yX;refine ⟨⟨tN, x1, ex⟩, kI, fun hm => ?_⟩;obtain ⟨b, c, vs, lz, _, _, gf, pu⟩ := cl.EQ yX hm;exact ⟨b, c, vs, lz, gf, pu⟩
 ·have lz : a.eval y = u := (ar.rel.look ai).1;obtain ⟨xs, ay, hl⟩ := (ar.rows j q ae).cells aI;have ahF : q.aO.length = q.n * q.sz := by rw [hl.1]; exact ay.1
  have wm : lo * q.sz + m * q.sz ≤ q.n * q.sz := by rw [← j0]; exact j1 _ au
  refine ⟨⟨eO, c, by rw [lz, rp, Nat.add_sub_cancel_left]⟩, by rw [dS, hN]; omega, fun hm => ?_⟩;obtain ⟨g, n', c', aF, h3, aN⟩ := hu (by omega);refine ⟨⟨g, lo * q.sz, none⟩, _, (xs.drop (lo * q.sz)).take (m * q.sz), by rw [lz, aN, Nat.add_sub_cancel_left], fun i x aa => ?_, hl.sub _ _⟩
  have hi : i < m * q.sz := by
   have := (bF.1 aa).1;rw [dS] at this;omega
  rw [fk hi, fC] at aa;have := ay.cells (g := g) (by rw [aF]; rfl) _ x aa;rw [AO] at this ⊢;simpa using this
theorem kx.out {f : Value → aG} {iu : Value → Prop} (h : kx P R s.look o f iu) : ∃ v', iu v' := by
 cases h with
 | copy => exact ⟨_, rfl⟩
 | _ => exact ⟨.bool false, rfl⟩
theorem kx.sound {f : Value → aG} {iu : Value → Prop} {d : Nat} (h : kx P R s.look o f iu) (ar : eo bo bG R s a w A ad) (hd : d < s.n) : ∃ v' w2 dH, (execOp a.eval o).run P w = .ok (.value v') w2 ∧ iu v' ∧ eo bo bG (f v') (s.put (some d) (aM v')) (a.put (some d) v') w2 dH ad := by
 cases h with
 | sC i r tt bytes m gS hz news hi ay ax aa ai h1 h2 aj =>
  obtain ⟨ev, z, hu, eT, aI, hf, kG, ot, bB⟩ := qP ax;obtain ⟨oi, nE, wC⟩ := ar.rows i r hi;obtain ⟨xs, iO, jy⟩ := oi.row bB;have hZ : a.eval gS = r.v := (ar.rel.look aa).1;have M0 : r.v.oneCell' = true := (ar.rel.look aa).2;have yX := ar.rel.look ai;rcases vb m with rfl | B3
  ·obtain ⟨⟨tN, x1, ex, BJ, kI, WQ⟩, W5⟩ := yX;have kJ : news = [] := by simpa using kI
   subst kJ;refine ⟨r.v, w, A, ?_, M0, ?_⟩
   ·rw [show (execOp a.eval o) = (do pure (.value (← Builtin.append_ #[tt, tt] o.type #[a.eval gS, a.eval hz])) : Sem Next) by
     simp only [execOp, ay, resolve, invoke, builtin, List.map_toArray, kQ, List.map_nil];rfl]
    simp only [Sem.run_bind];rw [hZ, ex]
    obtain ⟨eO, cap, hv, eI⟩ : ∃ eO cap, r.v = .slice eO r.n cap ∧ r.n ≤ cap := by
     rcases iO.2 with ⟨e, cW⟩ | ⟨g, cap, cur, hv, ql, sY, eI, _⟩
     ·exact ⟨none, 0, by rw [e, cW], by omega⟩
     ·exact ⟨_, cap, hv, eI⟩
    rw [hv];cases eO with
    | none =>
     cases tN with
     | none => simp [Builtin.append_, run_underlying hu, sizeOf, typeInfo, eT, Builtin.lenOf, Builtin.firstCells, eI, storeCells]
     | some UF => simp [Builtin.append_, run_underlying hu, sizeOf, typeInfo, eT, Builtin.lenOf, Builtin.firstCells, eI, storeCells, loadCells, loadCellsFrom]
    | some agw =>
     cases tN with
     | none => simp [Builtin.append_, run_underlying hu, sizeOf, typeInfo, eT, Builtin.lenOf, Builtin.firstCells, eI, storeCells]
     | some UF => simp [Builtin.append_, run_underlying hu, sizeOf, typeInfo, eT, Builtin.lenOf, Builtin.firstCells, eI, storeCells, loadCells, loadCellsFrom]
   ·have e : bA R i ⟨r.e, r.sz, r.v, r.n + 0, r.aO ++ []⟩ = R := by
     funext j
     by_cases e : j = i
     ·subst e; rw [cf, hi]; simp
     ·rw [b3 _ _ e]
    show eo bo bG (bA R i ⟨r.e, r.sz, r.v, r.n + 0, r.aO ++ []⟩) _ _ _ _ _;rw [e];exact ar.put (d := some d) (fun d' e => by cases e; exact hd) ⟨rfl, M0⟩
  ·obtain ⟨b, c, vs, lz, BJ, kI, gf, pu⟩ := cl.EQ yX B3
   have nD : ∀ u ∈ vs, u.oneCell' = true := fun u eU => by
    obtain ⟨j, ae⟩ := jh eU;have a8 : j < news.length := by rw [pu.1]; exact (bF.1 ae).1
    exact (pu.2 j _ u (bQ a8) ae).cell
   obtain ⟨v', w2, gh, wz, iL, k4, MG⟩ := QQ (P := P) w 0 tt o.type r.e ev z r.sz bytes hu eT aI hf kG ot bB r.v r.n xs iO b m c vs (by rw [← pu.1]; exact kI) gf nD h1 h2 (dA _) B3
   obtain ⟨dH, cg⟩ := ar.grown (i := i) (r := ⟨r.e, r.sz, v', r.n + m, r.aO ++ news⟩) r.v.ownBlock (fun g ao => ⟨r, hi, .inl ao⟩) bB iL MG wz k4 (jy.append pu) (fun y ai => by
    rcases iU.1 ai with h | h
    ·exact nE y h
    ·exact aj y h) hd
   refine ⟨v', w2, dH, ?_, MG, cg⟩;have Yn : (Builtin.append_ #[tt, tt] o.type #[a.eval gS, a.eval hz]).run P w = .ok v' w2 := by rw [hZ, lz]; exact gh
   simp only [execOp, ay, resolve, invoke, builtin, Sem.run_bind, Sem.run_pure, Result.andThen_ok, List.map_toArray, kQ, List.map_nil, Yn]
 | new i t n e sz bytes parts vs zs r hi ay ax dD aI ab h1 hs h2 h3 al cA =>
  obtain ⟨ev, z, hu, eT, hh, hf, kG, ot, bB⟩ := qP ax;unfold w9 at dD;rw [hu] at dD;simp only at dD;unfold zeroOf at dD;rw [eT] at dD;simp only [j2] at dD;rw [hh] at dD;cases dD;have hlen : z.cells.toList.length = sz := hs;have rL : (zeroValue e).run P w = .ok z w := by simp [zeroValue, typeInfo, program, Sem.run_bind, Sem.run, eT, Result.andThen, hh]
  have jy : bH (s.free A ad) ad w (hA n sz z.cells.toList) ((List.range (n * sz)).map fun j => z.cells[j % z.cells.size]!) := by
   refine ⟨by simp [hA], fun j x v aa hv => ?_⟩;have ae : j < n * sz := by have := (bF.1 hv).1; simpa using this
   simp only [hA, ef, List.getElem?_range ae, gC, gP] at aa hv;subst aa; subst hv;have a8 : j % z.cells.size < z.cells.size := Nat.mod_lt _ (by omega);have aN : z.cells.toList.toArray[j % z.cells.toList.length]! = z.cells[j % z.cells.size]! := by simp
   refine ⟨aN.symm, ?_⟩;rw [aN, getElem!_pos z.cells _ a8];exact cb.1 h1 _ (by simp)
  obtain ⟨us, g1, g2⟩ := yc (U := s.free A ad) (ad := ad) (W := w) (ps := u7 n sz) (place := fun i => some (i * sz, sz)) (fun i q ak => by
    simp only [u7, ef] at ak;cases al : (List.range n)[i]? with
    | none => rw [al] at ak; cases ak
    | some m =>
     rw [al] at ak;cases ak;have := bF.1 al;obtain ⟨h3, aE⟩ := this;simp at aE;rw [aE]) (look := s.look) (env := a.eval) parts _ _ zs r jy aI (fun p hp av aH => ar.rel.look aH) ab
  have wD : us.length = n * sz := by rw [← g2.1]; exact al
  have gh : (execOp a.eval o).run P w = .ok (.value (.slice (some ⟨w.heap.size, 0, none⟩) n n)) (w.alloc (.cells us.toArray e)) := by
   have s4 : (parts.toArray.map fun (i, x) => (i, a.eval x)).toList = parts.map fun p => (p.1, a.eval p.2) := by simp
   have b5 : (Array.range (n * sz)).map (fun j => z.cells[j % z.cells.size]!) = ((List.range (n * sz)).map fun j => z.cells[j % z.cells.size]!).toArray := by simp [← List.toArray_range]
   simp only [execOp, ay, Instr.buildSlice, Sem.run_bind, run_underlying hu, Result.andThen_ok, ht eT, hf];rw [if_neg (by omega)]
   by_cases aA : n * sz = 0
   ·rw [if_pos aA];have eB : (Array.range (n * sz)).map (fun j => (#[] : Array Value)[j % (#[] : Array Value).size]!) = ((List.range (n * sz)).map fun j => z.cells[j % z.cells.size]!).toArray := by rw [aA]; simp
    simp only [Sem.run_bind, Sem.run_pure, Result.andThen_ok, eB, s4, g1, newRow, newObj, Sem.run];rfl
   ·rw [if_neg aA];simp only [Sem.run_bind, Sem.run_pure, rL, Result.andThen_ok, b5, s4, g1, newRow, newObj, Sem.run];rfl
  have Gp : (w.alloc (.cells us.toArray e)).heap[w.heap.size]? = some (.cells us.toArray e (0, 0)) := by show (w.heap.push _)[w.heap.size]? = _; simp
  obtain ⟨dH, cg⟩ := ar.grown (i := i) (r := ⟨e, sz, .slice (some ⟨w.heap.size, 0, none⟩) n n, n, r⟩) (xs := us) none (fun g ao => by cases ao) bB (World.grownBy_alloc w _ none) rfl ⟨wD, .inr ⟨w.heap.size, n, us.toArray, rfl, dA _, Gp, dl _, h3, by simpa using wD, by simp [← wD]⟩⟩ (fun g ao => by simp [Value.ownBlock] at ao; exact .inr (by omega)) g2 cA hd;exact ⟨_, _, dH, gh, rfl, cg⟩
 | make i t l c e sz bytes x y ou pA vs hi ay ax dD aa ai Gg h1 hs h2 h3 =>
  obtain ⟨ev, z, hu, eT, hh, hf, kG, ot, bB⟩ := qP ax;unfold w9 at dD;rw [hu] at dD;simp only at dD;unfold zeroOf at dD;rw [eT] at dD;simp only [j2] at dD;rw [hh] at dD;cases dD;have hlen : z.cells.toList.length = sz := hs;have XY : z.cells.size = sz := by simpa using hlen
  have B9 : a.eval x = .int ou l := (ar.rel.look aa).1;have YG : a.eval y = .int pA c := (ar.rel.look ai).1;have WL : (c : Int) ≤ 9223372036854775807 := by have h := h3; simp only [maxLen] at h; omega
  have c0 : (ev.bytes : Int) * (c : Int) ≤ 281474976710656 := by
   have h : ((ev.bytes * c : Nat) : Int) ≤ 281474976710656 := by rw [kG]; omega
   rwa [Int.natCast_mul] at h
  have al := run_make (P := P) w t e ev z hu eT hh ou pA l c (by omega) (by omega) c0 WL;simp only [ks, hf] at al
  have gh : (execOp a.eval o).run P w = .ok (.value (.slice (some ⟨w.heap.size, 0, none⟩) l c)) (w.alloc (.cells (madeCells z.cells (c * sz)) e)) := by
   simp only [execOp, ay, B9, YG, Sem.run_bind, al, Result.andThen_ok, Sem.run_pure]
  have Gp : (w.alloc (.cells (madeCells z.cells (c * sz)) e)).heap[w.heap.size]? = some (.cells (madeCells z.cells (c * sz)) e (0, 0)) := by show (w.heap.push _)[w.heap.size]? = _; simp
  have hmul : l * sz ≤ c * sz := j1 _ Gg;have MW : (madeCells z.cells (c * sz)).size = c * sz := size_madeCells _ _
  have GH : ((madeCells z.cells (c * sz)).toList.take (l * sz)).length = l * sz := by
   rw [dS, Array.length_toList, MW]; exact oJ hmul
  have jy : bH (s.free A ad) ad w (hA l sz z.cells.toList) ((madeCells z.cells (c * sz)).toList.take (l * sz)) := by
   refine ⟨by rw [GH]; simp [hA], fun j x v aa hv => ?_⟩;have ae : j < l * sz := by have := (bF.1 hv).1; rw [GH] at this; exact this
   rw [fk ae] at hv;simp only [hA, ef, List.getElem?_range ae, gC, gP] at aa;subst aa;have a8 : j % z.cells.size < z.cells.size := Nat.mod_lt _ (by omega);have aN : z.cells.toList.toArray[j % z.cells.toList.length]! = z.cells[j % z.cells.size]! := by simp
   have lD : v = z.cells[j % z.cells.size]! := by
    have : (madeCells z.cells (c * sz)).toList[j]? = some z.cells[j % z.cells.size]! := by
     simp only [madeCells, Array.toList_map, ef];rw [show (Array.range (c * sz)).toList[j]? = some j by rw [Array.toList_range, List.getElem?_range (r1 ae hmul)]];rfl
    rw [this] at hv;exact (lP hv).symm
   refine ⟨by rw [aN]; exact lD, ?_⟩;rw [aN, getElem!_pos z.cells _ a8];exact cb.1 h1 _ (by simp)
  obtain ⟨dH, cg⟩ := ar.grown (i := i) (r := ⟨e, sz, .slice (some ⟨w.heap.size, 0, none⟩) l c, l, hA l sz z.cells.toList⟩) none (fun g ao => by cases ao) bB (World.grownBy_alloc w _ none) rfl ⟨GH, .inr ⟨w.heap.size, c, _, rfl, dA _, Gp, Gg, h3, MW, rfl⟩⟩ (fun g ao => by simp [Value.ownBlock] at ao; exact .inr (by omega)) jy (fun y ai => by simp only [hA, h9] at ai; obtain ⟨j, _, rfl⟩ := ai; rfl) hd;exact ⟨_, _, dH, gh, rfl, cg⟩
 | copy i r tt t2 m lo hi x y news cP bB ay ax aa ai h1 h2 aj =>
  obtain ⟨el, ev, hu, eT, hs⟩ := mu ax;have B5 : (P.info? el).map (·.size) = some r.sz := by rw [eT]; simp [hs]
  obtain ⟨oi, nE, wC⟩ := ar.rows i r cP;obtain ⟨xs, iO, jy⟩ := oi.row bB
  have hex : ∀ D S v2 w2, a.eval x = D → a.eval y = S → (Builtin.copy_ #[tt, t2] o.type #[D, S]).run P w = .ok v2 w2 → (execOp a.eval o).run P w = .ok (.value v2) w2 := fun D S v2 w2 aF aN b5 => by
   subst aF aN;simp only [execOp, ay, resolve, invoke, builtin, Sem.run_bind, Sem.run_pure, Result.andThen_ok, List.map_toArray, kQ, List.map_nil, b5]
  obtain ⟨⟨tN, x1, ex⟩, My, lC⟩ := ai.spec bB ar;have oo : r.aO.length = r.n * r.sz := by rw [jy.1]; exact iO.1
  rcases vb (Nat.min m (hi - lo)) with af | af
  ·obtain ⟨eO, E1, ja, ey, BK⟩ : ∃ eO E1 ja, a.eval x = .slice eO E1 ja ∧ E1 = hi - lo := by
    obtain ⟨eO, c, e, _, _⟩ := (ar.rows i r cP).Dw bB;rcases aa with ⟨aa, rfl, rfl⟩ | aa | ⟨u, aa, ⟨⟨RU, Vh, rp⟩, _⟩⟩
    ·exact ⟨eO, r.n, c, by rw [(ar.rel.look aa).1, e], by omega⟩
    ·have ak : a.eval x = gD r.v r.sz lo hi := (ar.rel.look aa).1;rw [e] at ak;unfold gD sliced at ak;exact ⟨_, _, _, ak, rfl⟩
    ·exact ⟨RU, _, Vh, by rw [(ar.rel.look aa).1, rp], rfl⟩
   subst BK;refine ⟨goInt 0, w, A, hex _ _ _ _ ey ex (aev w tt t2 o.type el _ _ _ _ _ _ r.sz hu B5 af), by rw [af]; rfl, ?_⟩
   have e : bA R i ⟨r.e, r.sz, r.v, r.n, eu r.aO (lo * r.sz) (news.take (Nat.min m (hi - lo) * r.sz))⟩ = R := by
    rw [af];funext j
    by_cases e : j = i
    ·subst e; rw [cf, cP]; simp [eu]
    ·rw [b3 _ _ e]
   rw [e];exact ar.put (d := some d) (fun d' e => by cases e; exact hd) ⟨rfl, rfl⟩
  ·have BW : Nat.min m (hi - lo) ≤ m := Nat.min_le_left _ _;have ahv : Nat.min m (hi - lo) ≤ hi - lo := Nat.min_le_right _ _;obtain ⟨b, c, vs, lz, gf, pu⟩ := lC (by omega)
   obtain ⟨g, cap, cur, hv, ql, sY, eI, ju, ej, nF⟩ : ∃ g cap cur, r.v = .slice (some ⟨g, 0, none⟩) r.n cap ∧ 0 ≤ g ∧ w.heap[g]? = some (.cells cur r.e (0, 0)) ∧ r.n ≤ cap ∧ cap ≤ maxLen ∧ cur.size = cap * r.sz ∧ cur.toList.take (r.n * r.sz) = xs := by
    rcases iO.2 with ⟨_, aA⟩ | h
    ·omega
    ·exact h
   obtain ⟨ja, ey⟩ : ∃ ja, a.eval x = .slice (some ⟨g, lo * r.sz, none⟩) (hi - lo) ja := by
    rcases aa with ⟨aa, rfl, rfl⟩ | aa | ⟨u, aa, ⟨_, hu⟩⟩
    ·exact ⟨cap, by rw [(ar.rel.look aa).1, hv]; simp⟩
    ·refine ⟨cap - lo, ?_⟩;rw [(ar.rel.look aa).1, hv, QE (by omega) (by omega)];have kj : (⟨g, 0, none⟩ : Addr).add (lo * r.sz) = ⟨g, lo * r.sz, none⟩ := by unfold Addr.add; split <;> simp_all
     rw [kj]
    ·obtain ⟨jb, n', c', aF, _, aN⟩ := hu (by omega);rw [hv] at aF;cases aF;exact ⟨_, by rw [(ar.rel.look aa).1, aN]⟩
   generalize oh : Nat.min m (hi - lo) = k at *;have ahw : k * r.sz ≤ m * r.sz := j1 _ BW;have ma : (vs.take (k * r.sz)).length = k * r.sz := by rw [dS, ← pu.1, My]; omega
   have gw : (news.take (k * r.sz)).length = k * r.sz := by rw [dS, My]; omega
   have Mq : lo * r.sz + k * r.sz ≤ r.n * r.sz := by rw [← j0]; exact j1 _ (by omega)
   have hmul : r.n * r.sz ≤ cap * r.sz := j1 _ eI
   have MK : bH (s.free A ad) ad w (news.take (k * r.sz)) (vs.take (k * r.sz)) := by
    have := pu.sub 0 (k * r.sz);simpa using this
   have nD : ∀ u ∈ vs.take (k * r.sz), u.oneCell' = true := fun u eU => by
    obtain ⟨j, ae⟩ := jh eU;have a8 : j < (news.take (k * r.sz)).length := by rw [gw, ← ma]; exact (bF.1 ae).1
    exact (MK.2 j _ u (bQ a8) ae).cell
   have gh := aew (P := P) w tt t2 o.type el g (lo * r.sz) (hi - lo) ja r.sz b m c cur r.e (vs.take (k * r.sz)) hu B5 sY (by rw [ma, oh]) (fun j v ae => gf j v (by
    have hl : j < k * r.sz := by rw [← ma]; exact (bF.1 ae).1
    rwa [fk hl] at ae)) (by rw [ma]; omega) nD
   rw [oh] at gh
   have uI : ∀ (u : Array Value), w.grownBy (w.setRow g u) (some g) := fun u => ⟨rfl, rfl, rfl, by simp [World.setRow], fun k _ af => by
    simp only [World.setRow, tw];rw [if_neg (fun e => af (by rw [e]))]⟩
   have mO := setRow_heap w g cur (cur.toList.take (lo * r.sz) ++ vs.take (k * r.sz) ++ cur.toList.drop (lo * r.sz + (vs.take (k * r.sz)).length)).toArray r.e (0, 0) sY;have cA : cur.toList.length = cap * r.sz := by rw [Array.length_toList]; exact ej
   have hlen : (cur.toList.take (lo * r.sz) ++ vs.take (k * r.sz) ++ cur.toList.drop (lo * r.sz + (vs.take (k * r.sz)).length)).length = cap * r.sz := by
    rw [cx, cx, ma, dS, hN, cA]; omega
   have hg := afF (cur := cur.toList) (us := vs.take (k * r.sz)) (off := lo * r.sz) (N := r.n * r.sz) (by rw [ma]; exact Mq) (by rw [cA]; exact hmul);rw [nF] at hg
   obtain ⟨dH, cg⟩ := ar.Fx (i := i) (r := ⟨r.e, r.sz, r.v, r.n, eu r.aO (lo * r.sz) (news.take (k * r.sz))⟩) (w2 := w.setRow g (cur.toList.take (lo * r.sz) ++ vs.take (k * r.sz) ++ cur.toList.drop (lo * r.sz + (vs.take (k * r.sz)).length)).toArray) (xs := xs.take (lo * r.sz) ++ vs.take (k * r.sz) ++ xs.drop (lo * r.sz + (vs.take (k * r.sz)).length)) (some g) (fun jb dX => by cases dX; exact ⟨r, cP, .inl (by rw [hv]; rfl)⟩) bB (uI _)
    ⟨by rw [← hg, dS, hlen]; exact oJ hmul, .inr ⟨g, cap, _, hv, ql, mO, eI, ju, by simpa using hlen, by simpa using hg⟩⟩ (fun jb dX => by rw [hv] at dX; simp [Value.ownBlock] at dX; exact .inl (by rw [dX])) (jy.eu MK (lo * r.sz) (by rw [gw, oo]; exact Mq)) (fun q ak => by
     unfold eu at ak;simp only [iU] at ak;rcases ak with (h1 | h1) | h1
     ·exact nE q (nN h1)
     ·exact aj q (nN h1)
     ·exact nE q (mm h1))
   exact ⟨goInt (k : Int), _, dH, hex _ _ _ _ ey lz gh, rfl, cg.put (d := some d) (fun d' e => by cases e; exact hd) ⟨rfl, rfl⟩⟩
inductive sk (P : Program) (R : aG) (look : Operand → Option ah) (o : Oper) : aG → Prop
 | store (i : Nat) (r : bz) (off ty : Nat) (x y : Operand) (z : br) (ev : TypeInfo) (hi : R i = some r) (au : 0 < r.n) (ay : o.op = .store ty x y) (aa : look x = some (aM (jn r.v off))) (ai : look y = some (.w z)) (ax : P.info? ty = some ev) (hs : ev.size = z.cells.length) (ab : off + z.cells.length ≤ r.aO.length) (aj : ∀ q ∈ z.cells, q.aV = true) : sk P R look o (bA R i ⟨r.e, r.sz, r.v, r.n, eu r.aO off z.cells⟩)
theorem sk.sound {aw : aG} (h : sk P R s.look o aw) (ar : eo bo bG R s a w A ad) : ∃ w2 dH, (execOp a.eval o).run P w = .ok .skip w2 ∧ eo bo bG aw s a w2 dH ad := by
 cases h with
 | store i r off ty x y z ev hi au ay aa ai ax hs ab aj =>
  obtain ⟨oi, nE, wC⟩ := ar.rows i r hi;have bB := oi.pos au;obtain ⟨xs, iO, jy⟩ := oi.row bB
  obtain ⟨g, cap, cur, hv, ql, sY, eI, ju, ej, nF⟩ : ∃ g cap cur, r.v = .slice (some ⟨g, 0, none⟩) r.n cap ∧ 0 ≤ g ∧ w.heap[g]? = some (.cells cur r.e (0, 0)) ∧ r.n ≤ cap ∧ cap ≤ maxLen ∧ cur.size = cap * r.sz ∧ cur.toList.take (r.n * r.sz) = xs := by
   rcases iO.2 with ⟨_, aA⟩ | h
   ·omega
   ·exact h
  have hp : a.eval x = .pointer (some ⟨g, off, none⟩) := by
   have := (ar.rel.look aa).1;rw [hv] at this;have kj : (⟨g, 0, none⟩ : Addr).add off = ⟨g, off, none⟩ := by unfold Addr.add; split <;> simp_all
   rw [this]; simp only [jn, kj]
  have aI : fE (s.free A ad) ad w z (a.eval y) := ar.rel.look ai;have oq := aI.cells;have uM : (a.eval y).cells.size = z.cells.length := by have := oq.1; simp at this; exact this.symm
  have oo : r.aO.length = r.n * r.sz := by rw [jy.1]; exact iO.1
  have hmul : r.n * r.sz ≤ cap * r.sz := j1 _ eI
  have iP : (storeVar ty ⟨g, off, none⟩ (a.eval y)).run P w = .ok () (w.setRow g (cur.toList.take off ++ (a.eval y).cells.toList ++ cur.toList.drop (off + (a.eval y).cells.toList.length)).toArray) := by
   unfold storeVar;have bX : ¬ ((a.eval y).cells.size ≠ ev.size) := by rw [uM, hs]; simp
   simp only [Sem.run_bind, ht ax, Result.andThen_ok, if_neg bX]
   have dn : ∀ v ∈ (a.eval y).cells.toList, v.oneCell' = true := fun v bP => by
    obtain ⟨j, ae⟩ := jh bP;have a8 : j < z.cells.length := by rw [oq.1]; exact (bF.1 ae).1
    exact (oq.2 j _ v (bQ a8) ae).cell
   have := run_storeCells_at (P := P) g off r.e (a.eval y).cells.toList 0 cur w sY (by simp; omega) dn;simpa using this
  have uI : ∀ (u : Array Value), w.grownBy (w.setRow g u) (some g) := fun u => ⟨rfl, rfl, rfl, by simp [World.setRow], fun k _ af => by
   simp only [World.setRow, tw];rw [if_neg (fun e => af (by rw [e]))]⟩
  have mO := setRow_heap w g cur (cur.toList.take off ++ (a.eval y).cells.toList ++ cur.toList.drop (off + (a.eval y).cells.toList.length)).toArray r.e (0, 0) sY
  have hlen : (cur.toList.take off ++ (a.eval y).cells.toList ++ cur.toList.drop (off + (a.eval y).cells.toList.length)).length = cap * r.sz := by
   simp [uM]; omega
  have hg : (cur.toList.take off ++ (a.eval y).cells.toList ++ cur.toList.drop (off + (a.eval y).cells.toList.length)).take (r.n * r.sz) = xs.take off ++ (a.eval y).cells.toList ++ xs.drop (off + (a.eval y).cells.toList.length) := by
   have M2 : (a.eval y).cells.toList.length = z.cells.length := by simpa using uM
   rw [← nF];apply List.ext_getElem?;intro j
   by_cases ae : j < r.n * r.sz
   ·rw [fk ae]
    by_cases qu : j < off
    ·rw [gQ, fK (by simp; omega), fk qu, gQ, fK (by simp; omega), fk qu, fk ae]
    ·have t1 : (cur.toList.take off).length = off := by simp; omega
     have t2 : ((cur.toList.take (r.n * r.sz)).take off).length = off := by simp; omega
     by_cases Ci : j < off + z.cells.length
     ·rw [gQ, gm (by omega), fK (by omega), gQ, gm (by omega), fK (by omega), t1, t2]
     ·rw [gm (by simp only [cx, t1]; omega), gm (by simp only [cx, t2]; omega), fC, fC];simp only [cx, t1, t2, M2];rw [fk (by omega)]
   ·rw [lQ (by simp; omega), lQ];simp only [cx, dS, hN, M2];have : cur.toList.length = cap * r.sz := by simpa using ej
    omega
  obtain ⟨dH, cg⟩ := ar.Fx (i := i) (r := ⟨r.e, r.sz, r.v, r.n, eu r.aO off z.cells⟩) (w2 := w.setRow g (cur.toList.take off ++ (a.eval y).cells.toList ++ cur.toList.drop (off + (a.eval y).cells.toList.length)).toArray) (xs := xs.take off ++ (a.eval y).cells.toList ++ xs.drop (off + (a.eval y).cells.toList.length)) (some g) (fun jb dX => by cases dX; exact ⟨r, hi, .inl (by rw [hv]; rfl)⟩) bB (uI _)
   ⟨by simp [uM]; have := iO.1; omega, .inr ⟨g, cap, _, hv, ql, mO, eI, ju, by simpa using hlen, by simpa using hg⟩⟩ (fun jb dX => by rw [hv] at dX; simp [Value.ownBlock] at dX; exact .inl (by rw [dX])) (jy.eu oq off ab) (fun q ak => by
    unfold eu at ak;simp only [iU] at ak;rcases ak with (h1 | h1) | h1
    ·exact nE q (nN h1)
    ·exact aj q h1
    ·exact nE q (mm h1))
  refine ⟨_, dH, ?_, cg⟩;simp only [execOp, ay, Instr.storeAt, hp, Instr.sureAddr, Sem.run_bind, Sem.run_pure, Result.andThen_ok, iP]
end
end Go.Proofs.YtbcecodakfejaaaGreat
