/-
  My own texts, without what this claim does not need. My own text.
-/
import Derived.Laws.AppendOwn
import Derived.Laws.MakeOwn
import Derived.Laws.Slices
import Derived.Test.YtbcecodakfejaaaGreatSChainsK3
set_option maxRecDepth 100000
set_option maxHeartbeats 64000000
set_option linter.unusedVariables false
set_option linter.unusedSimpArgs false
set_option linter.unusedSectionVars false
namespace Go.Proofs.YtbcecodakfejaaaGreat
def b7 (x y : Int) : Bool := decide (x ≤ 134217728) && decide (y ≤ 134217728) && decide (-134217728 ≤ x) && decide (-134217728 ≤ y)
theorem oh {x y : Int} : b7 x y = true ↔ (-134217728 ≤ x ∧ x ≤ 134217728) ∧ -134217728 ≤ y ∧ y ≤ 134217728 := by
  unfold b7;simp only [c5, b4];omega
def dv (a1 a2 b1 b2 : Int) : Prop := a1 < b1 ∨ (a1 = b1 ∧ a2 ≤ b2)
instance (a1 a2 b1 b2 : Int) : Decidable (dv a1 a2 b1 b2) := by unfold dv; exact inferInstance
theorem dv.IH {a1 a2 : Int} : dv a1 a2 a1 a2 := .inr ⟨rfl, mH _⟩
theorem dv.trans {a1 a2 b1 b2 c1 c2 : Int} (h : dv a1 a2 b1 b2) (k : dv b1 b2 c1 c2) : dv a1 a2 c1 c2 := by unfold dv at *; omega
theorem dv.total (a1 a2 b1 b2 : Int) : dv a1 a2 b1 b2 ∨ dv b1 b2 a1 a2 := by unfold dv; omega
theorem dv.Be {a1 a2 b1 b2 : Int} (h : dv a1 a2 b1 b2) (k : dv b1 b2 a1 a2) : a1 = b1 ∧ a2 = b2 := by unfold dv at *; omega
def r6 (p1 p2 a1 a2 b1 b2 : Int) : Prop := gX a1 b1 ≤ p1 ∧ p1 ≤ gW a1 b1 ∧ gX a2 b2 ≤ p2 ∧ p2 ≤ gW a2 b2
theorem K8 {s1 s2 t1 t2 p1 p2 : Int} (iz : dv s1 s2 t1 t2) (al : b0 s1 s2 t1 t2 p1 p2 = 0) : r6 p1 p2 s1 s2 t1 t2 ↔ dv s1 s2 p1 p2 ∧ dv p1 p2 t1 t2 := by
  unfold b0 at al;have ti : (t1 - s1) * (p2 - s2) = (t2 - s2) * (p1 - s1) := by omega
  unfold r6 gX gW dv at *
  by_cases h1 : s1 = t1
  · subst h1
    have e : (t2 - s2) * (p1 - s1) = 0 := by rw [← ti]; simp
    rcases sq.1 e with e | e
    · constructor
      · intro h; split at h <;> (try split at h) <;> (try split at h) <;> (try split at h) <;> omega
      · intro h; split <;> (try split) <;> (try split) <;> (try split) <;> omega
    · constructor
      · intro h; split at h <;> (try split at h) <;> (try split at h) <;> (try split at h) <;> omega
      · intro h; split <;> (try split) <;> (try split) <;> (try split) <;> omega
  · have h2 : s1 < t1 := by omega
    have hd : 0 < t1 - s1 := by omega
    rw [if_neg (show ¬ t1 < s1 by omega), if_pos (show t1 > s1 by omega)]
   
    have key : s1 ≤ p1 → p1 ≤ t1 → (if t2 < s2 then t2 else s2) ≤ p2 ∧ p2 ≤ (if t2 > s2 then t2 else s2) := by
      intro bn bY
      by_cases g : t2 < s2
      · rw [if_pos g, if_neg (by omega)]
        have a1 : (t2 - s2) * (t1 - s1) ≤ (t2 - s2) * (p1 - s1) := Int.mul_le_mul_of_nonpos_left (by omega) (by omega);have a2 : (t2 - s2) * (p1 - s1) ≤ 0 := Int.mul_nonpos_of_nonpos_of_nonneg (by omega) (by omega);rw [← ti] at a1 a2;rw [iq (t2 - s2)] at a1;have b1 := Int.le_of_mul_le_mul_left a1 hd
        have b2 : p2 - s2 ≤ 0 := by
          have : (t1 - s1) * (p2 - s2) ≤ (t1 - s1) * 0 := by omega
          exact Int.le_of_mul_le_mul_left this hd
        omega
      · rw [if_neg g]
        have a1 : (t2 - s2) * (p1 - s1) ≤ (t2 - s2) * (t1 - s1) := od (by omega) (by omega);have a2 : 0 ≤ (t2 - s2) * (p1 - s1) := fY (by omega) (by omega);rw [← ti] at a1 a2;rw [iq (t2 - s2)] at a1;have b1 := Int.le_of_mul_le_mul_left a1 hd
        have b2 : 0 ≤ p2 - s2 := by
          have : (t1 - s1) * 0 ≤ (t1 - s1) * (p2 - s2) := by omega
          exact Int.le_of_mul_le_mul_left this hd
        split <;> omega
    constructor
    · rintro ⟨bn, bY, fW, iX⟩
      constructor
      · by_cases g : s1 < p1
        · exact .inl g
        · right
          have : p1 = s1 := by omega
          subst this;have : (t1 - p1) * (p2 - s2) = 0 := by rw [ti]; simp
          rcases sq.1 this with e | e <;> omega
      · by_cases g : p1 < t1
        · exact .inl g
        · right
          have : p1 = t1 := by omega
          subst this;rw [iq (t2 - s2)] at ti;have := Int.eq_of_mul_eq_mul_left (show p1 - s1 ≠ 0 by omega) ti;omega
    · rintro ⟨bn, bY⟩
      have Hy : s1 ≤ p1 := by omega
      have Hz : p1 ≤ t1 := by omega
      exact ⟨Hy, Hz, (key Hy Hz).1, (key Hy Hz).2⟩
def df (p1 p2 s1 s2 t1 t2 : Int) : Prop := b0 s1 s2 t1 t2 p1 p2 = 0 ∧ r6 p1 p2 s1 s2 t1 t2
theorem vp {s1 s2 t1 t2 p1 p2 : Int} (iz : dv s1 s2 t1 t2) : df p1 p2 s1 s2 t1 t2 ↔ b0 s1 s2 t1 t2 p1 p2 = 0 ∧ dv s1 s2 p1 p2 ∧ dv p1 p2 t1 t2 := by
  unfold df
  constructor
  · rintro ⟨h, k⟩; exact ⟨h, (K8 iz h).1 k⟩
  · rintro ⟨h, k⟩; exact ⟨h, (K8 iz h).2 k⟩
theorem Fw (a1 a2 b1 b2 : Int) : b0 a1 a2 b1 b2 a1 a2 = 0 := by unfold b0; grind
theorem LK (a1 a2 b1 b2 : Int) : b0 a1 a2 b1 b2 b1 b2 = 0 := by unfold b0; grind
theorem tK {s1 s2 t1 t2 : Int} (iz : dv s1 s2 t1 t2) : df s1 s2 s1 s2 t1 t2 := (vp iz).2 ⟨Fw .., .IH, iz⟩
theorem tJ {s1 s2 t1 t2 : Int} (iz : dv s1 s2 t1 t2) : df t1 t2 s1 s2 t1 t2 := (vp iz).2 ⟨LK .., iz, .IH⟩
theorem zM {p1 p2 s1 s2 : Int} (h : df p1 p2 s1 s2 s1 s2) : p1 = s1 ∧ p2 = s2 := by
  obtain ⟨_, h1, h2⟩ := (vp dv.IH).1 h;have := dv.Be h1 h2; omega
def oY (s1 s2 bN bO t1 t2 t3 t4 : Int) : Int := (bN - s1) * (t4 - t2) - (bO - s2) * (t3 - t1)
theorem tM {s1 s2 bN bO t1 t2 t3 t4 p1 p2 cx dF : Int} (hs : dv s1 s2 bN bO) (aB : dv t1 t2 t3 t4) (hw : oY s1 s2 bN bO t1 t2 t3 t4 = 0)
    (ps : df p1 p2 s1 s2 bN bO) (o0 : df p1 p2 t1 t2 t3 t4) (sx : df cx dF s1 s2 bN bO) (gM : dv t1 t2 cx dF) (aeO : dv cx dF t3 t4) : df cx dF t1 t2 t3 t4 := by
  by_cases hd : s1 = bN ∧ s2 = bO
  · obtain ⟨rfl, rfl⟩ := hd
    obtain ⟨rfl, rfl⟩ := zM ps;obtain ⟨rfl, rfl⟩ := zM sx;exact o0
  · refine (vp aB).2 ⟨?_, gM, aeO⟩
    have a := ps.1;have b := o0.1;have c := sx.1;unfold b0 oY at *;have d1 : (bN - s1) * ((t3 - t1) * (dF - t2) - (t4 - t2) * (cx - t1)) = 0 := by grind
    have d2 : (bO - s2) * ((t3 - t1) * (dF - t2) - (t4 - t2) * (cx - t1)) = 0 := by grind
    rcases sq.1 d1 with e | e
    · rcases sq.1 d2 with f | f
      · omega
      · exact f
    · exact e
theorem K9 {x y A B D : Int} (eG : 0 < D) (e : D = A - B) : (gX x y * D ≤ y * A - x * B ∧ y * A - x * B ≤ gW x y * D) ↔ (x = y ∨ (B ≤ 0 ∧ 0 ≤ A)) := by
  subst e;unfold gX gW
  by_cases h : x = y
  · subst h
    have : x * (A - B) = x * A - x * B := Int.mul_sub ..;simp [this]
  · have pos : ∀ {u v : Int}, 0 < u → (0 ≤ u * v ↔ 0 ≤ v) := by
      intro u v hu
      constructor
      · intro k
        have k' : u * 0 ≤ u * v := by omega
        exact Int.le_of_mul_le_mul_left k' hu
      · intro k; exact fY (by omega) k
    by_cases g : x < y
    · rw [if_neg (by omega), if_pos (show y > x from g)]
      have hu : 0 < y - x := by omega
      have aF : y * A - x * B - x * (A - B) = (y - x) * A := by grind
      have aP : y * (A - B) - (y * A - x * B) = (y - x) * (-B) := by grind
      have p1 := pos (v := A) hu;have p2 := pos (v := -B) hu;omega
    · rw [if_pos (by omega), if_neg (by omega)]
      have hu : 0 < x - y := by omega
      have aF : x * (A - B) - (y * A - x * B) = (x - y) * A := by grind
      have aP : y * A - x * B - y * (A - B) = (x - y) * (-B) := by grind
      have p1 := pos (v := A) hu;have p2 := pos (v := -B) hu;omega
def kR (n d a b : Int) : Prop := gX a b * d ≤ n ∧ n ≤ gW a b * d
theorem Bn {x y u v A B D : Int} (eG : 0 < D) (e : D = A - B) (bU : ¬ (x = y ∧ u = v)) : (kR (y * A - x * B) D x y ∧ kR (v * A - u * B) D u v) ↔ (B ≤ 0 ∧ 0 ≤ A) := by
  unfold kR;rw [K9 eG e, K9 eG e];omega
theorem rF {n d a b : Int} : kR n d a b ↔ kR n d b a := by
  unfold kR gX gW
  by_cases h : a = b
  · subst h; rfl
  · by_cases g : a < b
    · rw [if_neg (by omega), if_pos (show b > a from g), if_pos g, if_neg (by omega)]
    · rw [if_pos (show b < a by omega), if_neg (by omega), if_neg g, if_pos (by omega)]
structure fz where
  k : Int
  n : Int
  d : Int
  m : Int
  e : Int
  p1 : Int
  p2 : Int
  q1 : Int
  q2 : Int
def hU : fz := ⟨0, 0, 0, 0, 0, 0, 0, 0, 0⟩
def jc (n d m e : Int) : fz := ⟨1, n, d, m, e, 0, 0, 0, 0⟩
def sR (p1 p2 q1 q2 : Int) : fz := ⟨2, 0, 0, 0, 0, p1, p2, q1, q2⟩
def jt (n d : Int) : Int := if d < 0 then -n else n
def iA (d : Int) : Int := if d < 0 then -d else d
theorem q3 {d : Int} (h : d ≠ 0) (n : Int) : jt (-n) (-d) = jt n d := by unfold jt; split <;> split <;> omega
theorem zJ (d : Int) : iA (-d) = iA d := by unfold iA; split <;> split <;> omega
theorem PK {d : Int} (h : d ≠ 0) : 0 < iA d := by unfold iA; split <;> omega
def jM (a1 a2 b1 b2 c1 c2 d1 d2 : Int) : Int := ((b2 - a2) * a1 + (a1 - b1) * a2) * (c1 - d1) - (a1 - b1) * ((d2 - c2) * c1 + (c1 - d1) * c2)
def jN (a1 a2 b1 b2 c1 c2 d1 d2 : Int) : Int := (b2 - a2) * ((d2 - c2) * c1 + (c1 - d1) * c2) - ((b2 - a2) * a1 + (a1 - b1) * a2) * (d2 - c2)
def c3 (a1 a2 b1 b2 c1 c2 d1 d2 : Int) : Int := (b2 - a2) * (c1 - d1) - (a1 - b1) * (d2 - c2)
theorem Sw (a1 a2 b1 b2 c1 c2 d1 d2 : Int) : c3 a1 a2 b1 b2 c1 c2 d1 d2 = oY a1 a2 b1 b2 c1 c2 d1 d2 := by unfold c3 oY; grind
section
variable (a1 a2 b1 b2 c1 c2 d1 d2 : Int)
theorem Eu : c3 b1 b2 a1 a2 c1 c2 d1 d2 = - c3 a1 a2 b1 b2 c1 c2 d1 d2 := by unfold c3; grind
theorem Ax : c3 a1 a2 b1 b2 d1 d2 c1 c2 = - c3 a1 a2 b1 b2 c1 c2 d1 d2 := by unfold c3; grind
theorem Ev : c3 c1 c2 d1 d2 a1 a2 b1 b2 = - c3 a1 a2 b1 b2 c1 c2 d1 d2 := by unfold c3; grind
theorem abW : jM b1 b2 a1 a2 c1 c2 d1 d2 = - jM a1 a2 b1 b2 c1 c2 d1 d2 := by unfold jM; grind
theorem abX : jM a1 a2 b1 b2 d1 d2 c1 c2 = - jM a1 a2 b1 b2 c1 c2 d1 d2 := by unfold jM; grind
theorem Pq : jM c1 c2 d1 d2 a1 a2 b1 b2 = - jM a1 a2 b1 b2 c1 c2 d1 d2 := by unfold jM; grind
theorem abY : jN b1 b2 a1 a2 c1 c2 d1 d2 = - jN a1 a2 b1 b2 c1 c2 d1 d2 := by unfold jN; grind
theorem abZ : jN a1 a2 b1 b2 d1 d2 c1 c2 = - jN a1 a2 b1 b2 c1 c2 d1 d2 := by unfold jN; grind
theorem Pr : jN c1 c2 d1 d2 a1 a2 b1 b2 = - jN a1 a2 b1 b2 c1 c2 d1 d2 := by unfold jN; grind
theorem H4 : c1 * b0 a1 a2 b1 b2 d1 d2 - d1 * b0 a1 a2 b1 b2 c1 c2 = jM a1 a2 b1 b2 c1 c2 d1 d2 := by unfold jM b0; grind
theorem H5 : c2 * b0 a1 a2 b1 b2 d1 d2 - d2 * b0 a1 a2 b1 b2 c1 c2 = jN a1 a2 b1 b2 c1 c2 d1 d2 := by unfold jN b0; grind
theorem Js : b0 a1 a2 b1 b2 d1 d2 - b0 a1 a2 b1 b2 c1 c2 = c3 a1 a2 b1 b2 c1 c2 d1 d2 := by unfold c3 b0; grind
end
def four (a1 a2 b1 b2 c1 c2 d1 d2 x y d : Int) : Prop := kR x d a1 b1 ∧ kR y d a2 b2 ∧ kR x d c1 d1 ∧ kR y d c2 d2
instance (n d a b : Int) : Decidable (kR n d a b) := by unfold kR; exact inferInstance
instance (a1 a2 b1 b2 c1 c2 d1 d2 x y d : Int) : Decidable (four a1 a2 b1 b2 c1 c2 d1 d2 x y d) := by unfold four; exact inferInstance
theorem zv {α : Type} {p q : Prop} [Decidable p] [Decidable q] {a b : α} (h : p ↔ q) : (if p then a else b) = if q then a else b := by
  by_cases k : p
  · rw [if_pos k, if_pos (h.1 k)]
  · rw [if_neg k, if_neg fun g => k (h.2 g)]
def tC (a1 a2 b1 b2 c1 c2 d1 d2 x y d : Int) : fz := if four a1 a2 b1 b2 c1 c2 d1 d2 x y d then jc x d y d else hU
def mB (a1 a2 b1 b2 c1 c2 d1 d2 : Int) : fz :=
  tC a1 a2 b1 b2 c1 c2 d1 d2 (jt (jM a1 a2 b1 b2 c1 c2 d1 d2) (c3 a1 a2 b1 b2 c1 c2 d1 d2)) (jt (jN a1 a2 b1 b2 c1 c2 d1 d2) (c3 a1 a2 b1 b2 c1 c2 d1 d2)) (iA (c3 a1 a2 b1 b2 c1 c2 d1 d2))
theorem abi {a1 a2 b1 b2 c1 c2 d1 d2 : Int} (h : c3 a1 a2 b1 b2 c1 c2 d1 d2 ≠ 0) : mB b1 b2 a1 a2 c1 c2 d1 d2 = mB a1 a2 b1 b2 c1 c2 d1 d2 := by
  unfold mB;rw [Eu, abW, abY, q3 h, q3 h, zJ];unfold tC four;exact zv (by rw [rF (a := b1), rF (a := b2)])
theorem abj {a1 a2 b1 b2 c1 c2 d1 d2 : Int} (h : c3 a1 a2 b1 b2 c1 c2 d1 d2 ≠ 0) : mB a1 a2 b1 b2 d1 d2 c1 c2 = mB a1 a2 b1 b2 c1 c2 d1 d2 := by
  unfold mB;rw [Ax, abX, abZ, q3 h, q3 h, zJ];unfold tC four;exact zv (by rw [rF (a := d1), rF (a := d2)])
theorem abk {a1 a2 b1 b2 c1 c2 d1 d2 : Int} (h : c3 a1 a2 b1 b2 c1 c2 d1 d2 ≠ 0) : mB c1 c2 d1 d2 a1 a2 b1 b2 = mB a1 a2 b1 b2 c1 c2 d1 d2 := by
  unfold mB;rw [Ev, Pq, Pr, q3 h, q3 h, zJ];unfold tC four;refine zv ?_
  constructor
  · rintro ⟨h1, h2, ao, aD⟩; exact ⟨ao, aD, h1, h2⟩
  · rintro ⟨h1, h2, ao, aD⟩; exact ⟨ao, aD, h1, h2⟩
def same (m n : Int) : Prop := (0 < m ∧ 0 < n) ∨ (m < 0 ∧ n < 0)
instance (m n : Int) : Decidable (same m n) := by unfold same; exact inferInstance
theorem Sv {a1 a2 b1 b2 c1 c2 d1 d2 : Int} (h : c3 a1 a2 b1 b2 c1 c2 d1 d2 ≠ 0) : ¬ (a1 = b1 ∧ a2 = b2) ∧ ¬ (c1 = d1 ∧ c2 = d2) := by
  refine ⟨?_, ?_⟩
  · rintro ⟨rfl, rfl⟩; apply h; unfold c3; simp
  · rintro ⟨rfl, rfl⟩; apply h; unfold c3; simp
theorem R5 {a1 a2 b1 b2 c1 c2 d1 d2 : Int} (h : c3 a1 a2 b1 b2 c1 c2 d1 d2 ≠ 0) :
    (kR (jt (jM a1 a2 b1 b2 c1 c2 d1 d2) (c3 a1 a2 b1 b2 c1 c2 d1 d2)) (iA (c3 a1 a2 b1 b2 c1 c2 d1 d2)) c1 d1 ∧ kR (jt (jN a1 a2 b1 b2 c1 c2 d1 d2) (c3 a1 a2 b1 b2 c1 c2 d1 d2)) (iA (c3 a1 a2 b1 b2 c1 c2 d1 d2)) c2 d2) ↔ ¬ same (b0 a1 a2 b1 b2 c1 c2) (b0 a1 a2 b1 b2 d1 d2) := by
  have bU := (Sv h).2;have aF := H4 a1 a2 b1 b2 c1 c2 d1 d2;have aP := H5 a1 a2 b1 b2 c1 c2 d1 d2;have cr := Js a1 a2 b1 b2 c1 c2 d1 d2;generalize jM a1 a2 b1 b2 c1 c2 d1 d2 = X at *;generalize jN a1 a2 b1 b2 c1 c2 d1 d2 = Y at *;generalize c3 a1 a2 b1 b2 c1 c2 d1 d2 = w at *;generalize b0 a1 a2 b1 b2 c1 c2 = C at *;generalize b0 a1 a2 b1 b2 d1 d2 = D at *;unfold jt iA same
  by_cases g : w < 0
  · rw [if_pos g, if_pos g, if_pos g, rF (a := c1), rF (a := c2)]
    have aR := Bn (x := d1) (y := c1) (u := d2) (v := c2) (A := -D) (B := -C) (D := -w) (by omega) (by omega) (by omega);have f1 : c1 * -D - d1 * -C = -X := by rw [← aF]; simp only [Int.mul_neg]; omega
    have f2 : c2 * -D - d2 * -C = -Y := by rw [← aP]; simp only [Int.mul_neg]; omega
    rw [f1, f2] at aR;rw [aR]; omega
  · rw [if_neg g, if_neg g, if_neg g, rF (a := c1), rF (a := c2)]
    have aR := Bn (x := d1) (y := c1) (u := d2) (v := c2) (A := D) (B := C) (D := w) (by omega) (by omega) (by omega);rw [aF, aP] at aR;rw [aR]; omega
theorem aga {a1 a2 b1 b2 c1 c2 d1 d2 : Int} (h : c3 a1 a2 b1 b2 c1 c2 d1 d2 ≠ 0) :
    (kR (jt (jM a1 a2 b1 b2 c1 c2 d1 d2) (c3 a1 a2 b1 b2 c1 c2 d1 d2)) (iA (c3 a1 a2 b1 b2 c1 c2 d1 d2)) a1 b1 ∧ kR (jt (jN a1 a2 b1 b2 c1 c2 d1 d2) (c3 a1 a2 b1 b2 c1 c2 d1 d2)) (iA (c3 a1 a2 b1 b2 c1 c2 d1 d2)) a2 b2) ↔ ¬ same (b0 c1 c2 d1 d2 a1 a2) (b0 c1 c2 d1 d2 b1 b2) := by
  have aK : c3 c1 c2 d1 d2 a1 a2 b1 b2 ≠ 0 := by rw [Ev]; omega
  have := R5 aK;rw [Pq, Pr, Ev, q3 h, q3 h, zJ] at this;exact this
theorem Xg {a1 a2 b1 b2 c1 c2 d1 d2 : Int} (h : c3 a1 a2 b1 b2 c1 c2 d1 d2 ≠ 0) :
    four a1 a2 b1 b2 c1 c2 d1 d2 (jt (jM a1 a2 b1 b2 c1 c2 d1 d2) (c3 a1 a2 b1 b2 c1 c2 d1 d2)) (jt (jN a1 a2 b1 b2 c1 c2 d1 d2) (c3 a1 a2 b1 b2 c1 c2 d1 d2)) (iA (c3 a1 a2 b1 b2 c1 c2 d1 d2)) ↔ ¬ (same (b0 a1 a2 b1 b2 c1 c2) (b0 a1 a2 b1 b2 d1 d2) ∨ same (b0 c1 c2 d1 d2 a1 a2) (b0 c1 c2 d1 d2 b1 b2)) := by
  unfold four;have p := R5 h;have q := aga h
  constructor
  · rintro ⟨h1, h2, ao, aD⟩ (g | g)
    · exact p.1 ⟨ao, aD⟩ g
    · exact q.1 ⟨h1, h2⟩ g
  · intro g
    obtain ⟨ao, aD⟩ := p.2 fun k => g (.inl k);obtain ⟨h1, h2⟩ := q.2 fun k => g (.inr k);exact ⟨h1, h2, ao, aD⟩
def eH (a1 a2 b1 b2 : Int) : Int := if dv a1 a2 b1 b2 then a1 else b1
def en (a1 a2 b1 b2 : Int) : Int := if dv a1 a2 b1 b2 then a2 else b2
def ep (a1 a2 b1 b2 : Int) : Int := if dv a1 a2 b1 b2 then b1 else a1
def ea (a1 a2 b1 b2 : Int) : Int := if dv a1 a2 b1 b2 then b2 else a2
theorem np (a1 a2 b1 b2 : Int) : (eH a1 a2 b1 b2 = a1 ∧ en a1 a2 b1 b2 = a2 ∧ ep a1 a2 b1 b2 = b1 ∧ ea a1 a2 b1 b2 = b2 ∧ dv a1 a2 b1 b2) ∨ (eH a1 a2 b1 b2 = b1 ∧ en a1 a2 b1 b2 = b2 ∧ ep a1 a2 b1 b2 = a1 ∧ ea a1 a2 b1 b2 = a2 ∧ dv b1 b2 a1 a2) := by
  unfold eH en ep ea
  by_cases h : dv a1 a2 b1 b2
  · simp [h]
  · simp [h, (dv.total a1 a2 b1 b2).resolve_left h]
theorem w7 (a1 a2 b1 b2 : Int) : dv (eH a1 a2 b1 b2) (en a1 a2 b1 b2) (ep a1 a2 b1 b2) (ea a1 a2 b1 b2) := by
  rcases np a1 a2 b1 b2 with ⟨h1, h2, ao, aD, h⟩ | ⟨h1, h2, ao, aD, h⟩ <;> rw [h1, h2, ao, aD] <;> exact h
theorem OR (a1 a2 b1 b2 : Int) : eH b1 b2 a1 a2 = eH a1 a2 b1 b2 ∧ en b1 b2 a1 a2 = en a1 a2 b1 b2 ∧ ep b1 b2 a1 a2 = ep a1 a2 b1 b2 ∧ ea b1 b2 a1 a2 = ea a1 a2 b1 b2 := by
  rcases np a1 a2 b1 b2 with ⟨h1, h2, ao, aD, h⟩ | ⟨h1, h2, ao, aD, h⟩ <;> rcases np b1 b2 a1 a2 with ⟨bn, bY, fW, iX, k⟩ | ⟨bn, bY, fW, iX, k⟩ <;> rw [h1, h2, ao, aD, bn, bY, fW, iX] <;> (try have := dv.Be h k) <;> simp_all
theorem zL {p1 p2 a1 a2 b1 b2 : Int} : df p1 p2 b1 b2 a1 a2 ↔ df p1 p2 a1 a2 b1 b2 := by
  unfold df r6;have e : b0 b1 b2 a1 a2 p1 p2 = - b0 a1 a2 b1 b2 p1 p2 := by unfold b0; grind
  have m : ∀ x y : Int, gX x y = gX y x := fun x y => by unfold gX; split <;> split <;> omega
  have n : ∀ x y : Int, gW x y = gW y x := fun x y => by unfold gW; split <;> split <;> omega
  rw [e, m a1, m a2, n a1, n a2]
  constructor <;> rintro ⟨h, k⟩ <;> exact ⟨by omega, k⟩
instance (p1 p2 a1 a2 b1 b2 : Int) : Decidable (r6 p1 p2 a1 a2 b1 b2) := by unfold r6; exact inferInstance
instance (p1 p2 a1 a2 b1 b2 : Int) : Decidable (df p1 p2 a1 a2 b1 b2) := by unfold df; exact inferInstance
theorem zN {p1 p2 a1 a2 b1 b2 : Int} : df p1 p2 (eH a1 a2 b1 b2) (en a1 a2 b1 b2) (ep a1 a2 b1 b2) (ea a1 a2 b1 b2) ↔ df p1 p2 a1 a2 b1 b2 := by
  rcases np a1 a2 b1 b2 with ⟨h1, h2, ao, aD, h⟩ | ⟨h1, h2, ao, aD, h⟩ <;> rw [h1, h2, ao, aD];exact zL
theorem aec {s1 s2 bN bO t1 t2 t3 t4 : Int} : oY t1 t2 t3 t4 s1 s2 bN bO = - oY s1 s2 bN bO t1 t2 t3 t4 := by unfold oY; grind
theorem OS {s1 s2 bN bO t1 t2 t3 t4 p1 p2 : Int} (hs : dv s1 s2 bN bO) (aB : dv t1 t2 t3 t4) (hw : oY s1 s2 bN bO t1 t2 t3 t4 = 0) (ps : df p1 p2 s1 s2 bN bO) (o0 : df p1 p2 t1 t2 t3 t4) :
    df (ep s1 s2 t1 t2) (ea s1 s2 t1 t2) s1 s2 bN bO ∧ df (ep s1 s2 t1 t2) (ea s1 s2 t1 t2) t1 t2 t3 t4 ∧ df (eH bN bO t3 t4) (en bN bO t3 t4) s1 s2 bN bO ∧ df (eH bN bO t3 t4) (en bN bO t3 t4) t1 t2 t3 t4
    ∧ dv (ep s1 s2 t1 t2) (ea s1 s2 t1 t2) p1 p2 ∧ dv p1 p2 (eH bN bO t3 t4) (en bN bO t3 t4) := by
  obtain ⟨_, dJ, xx⟩ := (vp hs).1 ps;obtain ⟨_, t0, t9⟩ := (vp aB).1 o0;have nl : oY t1 t2 t3 t4 s1 s2 bN bO = 0 := by rw [aec]; omega
  rcases np s1 s2 t1 t2 with ⟨_, _, ao, aD, h⟩ | ⟨_, _, ao, aD, h⟩ <;> rcases np bN bO t3 t4 with ⟨bn, bY, _, _, k⟩ | ⟨bn, bY, _, _, k⟩ <;> rw [ao, aD, bn, bY]
  · exact ⟨tM aB hs nl o0 ps (tK aB) h (t0.trans xx), tK aB, tJ hs, tM hs aB hw ps o0 (tJ hs) (t0.trans xx) k, t0, xx⟩
  · exact ⟨tM aB hs nl o0 ps (tK aB) h (t0.trans xx), tK aB, tM aB hs nl o0 ps (tJ aB) (dJ.trans t9) k, tJ aB, t0, t9⟩
  · exact ⟨tK hs, tM hs aB hw ps o0 (tK hs) h (dJ.trans t9), tJ hs, tM hs aB hw ps o0 (tJ hs) (t0.trans xx) k, dJ, xx⟩
  · exact ⟨tK hs, tM hs aB hw ps o0 (tK hs) h (dJ.trans t9), tM aB hs nl o0 ps (tJ aB) (dJ.trans t9) k, tJ aB, dJ, t9⟩
def ve (f1 f2 g1 g2 : Int) : fz := if f1 = g1 ∧ f2 = g2 then jc f1 1 f2 1 else sR f1 f2 g1 g2
def inl (s1 s2 bN bO t1 t2 t3 t4 : Int) : fz :=
  if df (ep s1 s2 t1 t2) (ea s1 s2 t1 t2) s1 s2 bN bO ∧ df (ep s1 s2 t1 t2) (ea s1 s2 t1 t2) t1 t2 t3 t4 then ve (ep s1 s2 t1 t2) (ea s1 s2 t1 t2) (eH bN bO t3 t4) (en bN bO t3 t4) else hU
def vf (a1 a2 b1 b2 c1 c2 d1 d2 : Int) : fz := inl (eH a1 a2 b1 b2) (en a1 a2 b1 b2) (ep a1 a2 b1 b2) (ea a1 a2 b1 b2) (eH c1 c2 d1 d2) (en c1 c2 d1 d2) (ep c1 c2 d1 d2) (ea c1 c2 d1 d2)
def ih (a1 a2 b1 b2 c1 c2 d1 d2 : Int) : fz := if c3 a1 a2 b1 b2 c1 c2 d1 d2 = 0 then vf a1 a2 b1 b2 c1 c2 d1 d2 else mB a1 a2 b1 b2 c1 c2 d1 d2
theorem O3 (a1 a2 b1 b2 c1 c2 d1 d2 : Int) : ih b1 b2 a1 a2 c1 c2 d1 d2 = ih a1 a2 b1 b2 c1 c2 d1 d2 := by
  unfold ih;obtain ⟨h1, h2, ao, aD⟩ := OR a1 a2 b1 b2
  by_cases h : c3 a1 a2 b1 b2 c1 c2 d1 d2 = 0
  · rw [if_pos (by rw [Eu]; omega), if_pos h]; unfold vf; rw [h1, h2, ao, aD]
  · rw [if_neg (by rw [Eu]; omega), if_neg h, abi h]
theorem O4 (a1 a2 b1 b2 c1 c2 d1 d2 : Int) : ih a1 a2 b1 b2 d1 d2 c1 c2 = ih a1 a2 b1 b2 c1 c2 d1 d2 := by
  unfold ih;obtain ⟨h1, h2, ao, aD⟩ := OR c1 c2 d1 d2
  by_cases h : c3 a1 a2 b1 b2 c1 c2 d1 d2 = 0
  · rw [if_pos (by rw [Ax]; omega), if_pos h]; unfold vf; rw [h1, h2, ao, aD]
  · rw [if_neg (by rw [Ax]; omega), if_neg h, abj h]
theorem abm (a1 a2 b1 b2 c1 c2 d1 d2 : Int) : ih (eH a1 a2 b1 b2) (en a1 a2 b1 b2) (ep a1 a2 b1 b2) (ea a1 a2 b1 b2) (eH c1 c2 d1 d2) (en c1 c2 d1 d2) (ep c1 c2 d1 d2) (ea c1 c2 d1 d2) = ih a1 a2 b1 b2 c1 c2 d1 d2 := by
  rcases np a1 a2 b1 b2 with ⟨h1, h2, ao, aD, _⟩ | ⟨h1, h2, ao, aD, _⟩ <;> rcases np c1 c2 d1 d2 with ⟨bn, bY, fW, iX, _⟩ | ⟨bn, bY, fW, iX, _⟩ <;> rw [h1, h2, ao, aD, bn, bY, fW, iX]
  · rw [O4]
  · rw [O3]
  · rw [O3, O4]
def HQ (s1 s2 bN bO t1 t2 t3 t4 A B C D : Int) : fz :=
  if A = B then inl s1 s2 bN bO t1 t2 t3 t4
  else if same A B ∨ same C D then hU
  else jc (jt (t3 * A - t1 * B) (A - B)) (iA (A - B)) (jt (t4 * A - t2 * B) (A - B)) (iA (A - B))
theorem OY {s1 s2 bN bO : Int} (h : dv s1 s2 bN bO) : eH s1 s2 bN bO = s1 ∧ en s1 s2 bN bO = s2 ∧ ep s1 s2 bN bO = bN ∧ ea s1 s2 bN bO = bO := by
  unfold eH en ep ea; simp [h]
theorem abl {s1 s2 bN bO t1 t2 t3 t4 : Int} (hs : dv s1 s2 bN bO) (aB : dv t1 t2 t3 t4) :
    HQ s1 s2 bN bO t1 t2 t3 t4 (b0 s1 s2 bN bO t1 t2) (b0 s1 s2 bN bO t3 t4) (b0 t1 t2 t3 t4 s1 s2) (b0 t1 t2 t3 t4 bN bO) = ih s1 s2 bN bO t1 t2 t3 t4 := by
  have aF := H4 s1 s2 bN bO t1 t2 t3 t4;have aP := H5 s1 s2 bN bO t1 t2 t3 t4;have cr := Js s1 s2 bN bO t1 t2 t3 t4;unfold HQ ih
  by_cases h : c3 s1 s2 bN bO t1 t2 t3 t4 = 0
  · rw [if_pos (by omega), if_pos h]
    unfold vf;obtain ⟨h1, h2, ao, aD⟩ := OY hs;obtain ⟨bn, bY, fW, iX⟩ := OY aB;rw [h1, h2, ao, aD, bn, bY, fW, iX]
  · rw [if_neg (by omega), if_neg h]
    have f := Xg h;have g1 : t3 * b0 s1 s2 bN bO t1 t2 - t1 * b0 s1 s2 bN bO t3 t4 = - jM s1 s2 bN bO t1 t2 t3 t4 := by omega
    have g2 : t4 * b0 s1 s2 bN bO t1 t2 - t2 * b0 s1 s2 bN bO t3 t4 = - jN s1 s2 bN bO t1 t2 t3 t4 := by omega
    have g3 : b0 s1 s2 bN bO t1 t2 - b0 s1 s2 bN bO t3 t4 = - c3 s1 s2 bN bO t1 t2 t3 t4 := by omega
    rw [g1, g2, g3, q3 h, q3 h, zJ];unfold mB tC
    by_cases q : same (b0 s1 s2 bN bO t1 t2) (b0 s1 s2 bN bO t3 t4) ∨ same (b0 t1 t2 t3 t4 s1 s2) (b0 t1 t2 t3 t4 bN bO)
    · rw [if_pos q, if_neg fun k => f.1 k q]
    · rw [if_neg q, if_pos (f.2 q)]
structure hM where
 n : Int
 d : Int
 own : Bool
structure Pa where
 f : hM
 t : hM
def hy (x y : hM) : Int := cj (x.n * y.d) (y.n * x.d)
def qU (x y : hM) : hM := if 0 < hy x y ∨ (hy x y = 0 ∧ y.own = true) then x else y
def qz (x y : hM) : hM := if hy x y < 0 ∨ (hy x y = 0 ∧ y.own = true) then x else y
def n6 (p : Pa) (u v : Int) (own : Bool) : Pa :=
 if 0 < v - u then ⟨qU p.f ⟨-u, v - u, own⟩, p.t⟩
 else if v - u < 0 then ⟨p.f, qz p.t ⟨u, -(v - u), own⟩⟩
 else if u < 0 ∨ (u = 0 ∧ own = false) then ⟨⟨1, 1, false⟩, ⟨0, 1, false⟩⟩ else p
def vY (p : Pa) : Bool := decide (hy p.f p.t < 0) || (decide (hy p.f p.t = 0) && p.f.own && p.t.own)
def uE : Pa := ⟨⟨0, 1, true⟩, ⟨1, 1, true⟩⟩
theorem N1 (x y : Int) : cj x y < 0 ↔ x < y := by unfold cj; split <;> (try split) <;> omega
theorem CI (x y : Int) : 0 < cj x y ↔ y < x := by unfold cj; split <;> (try split) <;> omega
theorem Ht (x y : Int) : cj x y = 0 ↔ x = y := by unfold cj; split <;> (try split) <;> omega
def qh (x : hM) (n d : Int) : Prop := x.n * d < n * x.d ∨ (x.own = true ∧ x.n * d = n * x.d)
def qj (y : hM) (n d : Int) : Prop := n * y.d < y.n * d ∨ (y.own = true ∧ n * y.d = y.n * d)
def po (p : Pa) (n d : Int) : Prop := qh p.f n d ∧ qj p.t n d
theorem oQ {a b c : Int} (h : a < b) (al : 0 < c) : a * c < b * c := Int.mul_lt_mul_of_pos_right h al
theorem lt_mul {a b c : Int} (h : a * c < b * c) (al : 0 < c) : a < b := Int.lt_of_mul_lt_mul_right h (by omega)
theorem eq_mul {a b c : Int} (h : a * c = b * c) (al : 0 < c) : a = b := Int.eq_of_mul_eq_mul_right (by omega) h
theorem uQ {a b c d e f : Int} (ab : 0 < b) (hd : 0 < d) (au : 0 < f) (h : a * d < c * b) (k : c * f < e * d) : a * f < e * b := by
 have h1 := oQ h au;have h2 := oQ k ab;refine lt_mul (c := d) ?_ hd;have aF : a * d * f = a * f * d := by grind
 have aP : c * b * f = c * f * b := by grind
 have cr : e * d * b = e * b * d := by grind
 omega
theorem wB {a b c d e f : Int} (ab : 0 < b) (hd : 0 < d) (au : 0 < f) (h : a * d = c * b) (k : c * f < e * d) : a * f < e * b := by
 have h2 := oQ k ab;refine lt_mul (c := d) ?_ hd;have aF : a * d * f = a * f * d := by grind
 have aP : c * b * f = c * f * b := by grind
 have cr : e * d * b = e * b * d := by grind
 have h1 : a * d * f = c * b * f := by rw [h]
 omega
theorem wC {a b c d e f : Int} (ab : 0 < b) (hd : 0 < d) (au : 0 < f) (h : a * d < c * b) (k : c * f = e * d) : a * f < e * b := by
 have h1 := oQ h au;refine lt_mul (c := d) ?_ hd;have aF : a * d * f = a * f * d := by grind
 have aP : c * b * f = c * f * b := by grind
 have cr : e * d * b = e * b * d := by grind
 have h2 : c * f * b = e * d * b := by rw [k]
 omega
theorem FZ {a b c d e f : Int} (ab : 0 < b) (hd : 0 < d) (au : 0 < f) (h : a * d = c * b) (k : c * f = e * d) : a * f = e * b := by
 refine eq_mul (c := d) ?_ hd;have aF : a * d * f = a * f * d := by grind
 have aP : c * b * f = c * f * b := by grind
 have cr : e * d * b = e * b * d := by grind
 have h1 : a * d * f = c * b * f := by rw [h]
 have h2 : c * f * b = e * d * b := by rw [k]
 omega
theorem Bt (x y : hM) : (x.n * y.d < y.n * x.d ∧ hy x y < 0) ∨ (x.n * y.d = y.n * x.d ∧ hy x y = 0) ∨ (y.n * x.d < x.n * y.d ∧ 0 < hy x y) := by
 have h1 := N1 (x.n * y.d) (y.n * x.d);have h2 := CI (x.n * y.d) (y.n * x.d);have ao := Ht (x.n * y.d) (y.n * x.d);unfold hy;omega
theorem OL (x y : hM) : (qU x y = x ∧ (0 < hy x y ∨ (hy x y = 0 ∧ y.own = true))) ∨ (qU x y = y ∧ ¬ (0 < hy x y ∨ (hy x y = 0 ∧ y.own = true))) := by
 unfold qU
 split
 ·rename_i h; exact .inl ⟨rfl, h⟩
 ·rename_i h; exact .inr ⟨rfl, h⟩
theorem L5 (x y : hM) : (qz x y = x ∧ (hy x y < 0 ∨ (hy x y = 0 ∧ y.own = true))) ∨ (qz x y = y ∧ ¬ (hy x y < 0 ∨ (hy x y = 0 ∧ y.own = true))) := by
 unfold qz
 split
 ·rename_i h; exact .inl ⟨rfl, h⟩
 ·rename_i h; exact .inr ⟨rfl, h⟩
theorem Uk {x y : hM} {n d : Int} (aa : 0 < x.d) (ai : 0 < y.d) (hd : 0 < d) : qh (qU x y) n d ↔ qh x n d ∧ qh y n d := by
 unfold qh;rcases OL x y with ⟨e, h⟩ | ⟨e, h⟩ <;> rw [e] <;> rcases Bt x y with ⟨t, c⟩ | ⟨t, c⟩ | ⟨t, c⟩
 ·omega
 ·have aA : y.own = true := by rcases h with h | ⟨_, h⟩ <;> first | exact h | (exfalso; omega)
  refine ⟨fun k => ⟨k, ?_⟩, fun k => k.1⟩;rcases k with k | ⟨_, k⟩
  ·exact .inl (wB ai aa hd t.symm k)
  ·exact .inr ⟨aA, FZ ai aa hd t.symm k⟩
 ·refine ⟨fun k => ⟨k, ?_⟩, fun k => k.1⟩;rcases k with k | ⟨_, k⟩
  ·exact .inl (uQ ai aa hd t k)
  ·exact .inl (wC ai aa hd t k)
 ·refine ⟨fun k => ⟨?_, k⟩, fun k => k.2⟩;rcases k with k | ⟨_, k⟩
  ·exact .inl (uQ aa ai hd t k)
  ·exact .inl (wC aa ai hd t k)
 ·refine ⟨fun k => ⟨?_, k⟩, fun k => k.2⟩;have aA : ¬ y.own = true := fun q => h (.inr ⟨c, q⟩);rcases k with k | ⟨q, k⟩
  ·exact .inl (wB aa ai hd t k)
  ·exact absurd q aA
 ·omega
theorem Vy {x y : hM} {n d : Int} (aa : 0 < x.d) (ai : 0 < y.d) (hd : 0 < d) : qj (qz x y) n d ↔ qj x n d ∧ qj y n d := by
 unfold qj;rcases L5 x y with ⟨e, h⟩ | ⟨e, h⟩ <;> rw [e] <;> rcases Bt x y with ⟨t, c⟩ | ⟨t, c⟩ | ⟨t, c⟩
 ·refine ⟨fun k => ⟨k, ?_⟩, fun k => k.1⟩;rcases k with k | ⟨_, k⟩
  ·exact .inl (uQ hd aa ai k t)
  ·exact .inl (wB hd aa ai k t)
 ·have aA : y.own = true := by rcases h with h | ⟨_, h⟩ <;> first | exact h | (exfalso; omega)
  refine ⟨fun k => ⟨k, ?_⟩, fun k => k.1⟩;rcases k with k | ⟨_, k⟩
  ·exact .inl (wC hd aa ai k t)
  ·exact .inr ⟨aA, FZ hd aa ai k t⟩
 ·omega
 ·omega
 ·refine ⟨fun k => ⟨?_, k⟩, fun k => k.2⟩;have aA : ¬ y.own = true := fun q => h (.inr ⟨c, q⟩);rcases k with k | ⟨q, k⟩
  ·exact .inl (wC hd ai aa k t.symm)
  ·exact absurd q aA
 ·refine ⟨fun k => ⟨?_, k⟩, fun k => k.2⟩;rcases k with k | ⟨_, k⟩
  ·exact .inl (uQ hd ai aa k t)
  ·exact .inl (wB hd ai aa k t)
def jA (u v : Int) (own : Bool) (n d : Int) : Prop := 0 < u * (d - n) + v * n ∨ (own = true ∧ u * (d - n) + v * n = 0)
theorem CZ {p : Pa} {u v n d : Int} {own : Bool} (au : 0 < p.f.d) (aB : 0 < p.t.d) (hd : 0 < d) : po (n6 p u v own) n d ↔ po p n d ∧ jA u v own n d := by
 have cq : u * (d - n) + v * n = (v - u) * n + u * d := by grind
 unfold n6
 by_cases h1 : 0 < v - u
 ·rw [if_pos h1];unfold po;rw [Uk au h1 hd]
  have : qh ⟨-u, v - u, own⟩ n d ↔ jA u v own n d := by
   unfold qh jA;simp only;have aF : -u * d = -(u * d) := by grind
   have aP : n * (v - u) = (v - u) * n := by grind
   rw [cq, aF, aP]
   constructor
   ·rintro (k | ⟨k, l⟩)
    ·exact .inl (by omega)
    ·exact .inr ⟨k, by omega⟩
   ·rintro (k | ⟨k, l⟩)
    ·exact .inl (by omega)
    ·exact .inr ⟨k, by omega⟩
  rw [this]
  constructor
  ·rintro ⟨⟨a, b⟩, c⟩; exact ⟨⟨a, c⟩, b⟩
  ·rintro ⟨⟨a, c⟩, b⟩; exact ⟨⟨a, b⟩, c⟩
 ·rw [if_neg h1]
  by_cases h2 : v - u < 0
  ·rw [if_pos h2];unfold po;have an : (0 : Int) < -(v - u) := by omega
   rw [Vy aB an hd]
   have : qj ⟨u, -(v - u), own⟩ n d ↔ jA u v own n d := by
    unfold qj jA;simp only;have aP : n * -(v - u) = -((v - u) * n) := by grind
    rw [cq, aP]
    constructor
    ·rintro (k | ⟨k, l⟩)
     ·exact .inl (by omega)
     ·exact .inr ⟨k, by omega⟩
    ·rintro (k | ⟨k, l⟩)
     ·exact .inl (by omega)
     ·exact .inr ⟨k, by omega⟩
   rw [this]
   constructor
   ·rintro ⟨a, b, c⟩; exact ⟨⟨a, b⟩, c⟩
   ·rintro ⟨⟨a, b⟩, c⟩; exact ⟨a, b, c⟩
  ·rw [if_neg h2];have cr : v - u = 0 := by omega
   have ew : u * (d - n) + v * n = u * d := by rw [cq, cr]; omega
   by_cases ao : u < 0 ∨ (u = 0 ∧ own = false)
   ·rw [if_pos ao]
    have h8 : ¬ jA u v own n d := by
     unfold jA;rw [ew];rcases ao with ao | ⟨rfl, rfl⟩
     ·have := oQ ao hd;omega
     ·simp
    refine ⟨fun k => absurd k ?_, fun k => absurd k.2 h8⟩;unfold po qh qj;simp;omega
   ·rw [if_neg ao]
    have ZJ : jA u v own n d := by
     unfold jA;rw [ew]
     by_cases aD : u = 0
     ·subst aD;right;refine ⟨?_, by simp⟩;cases own with
      | true => rfl
      | false => exact absurd (.inr ⟨rfl, rfl⟩) ao
     ·left;have : 0 < u := by omega
      have := oQ this hd;omega
    exact ⟨fun k => ⟨k, ZJ⟩, fun k => k.1⟩
theorem aaP {x y : hM} (aa : 0 < x.d) (ai : 0 < y.d) : 0 < (qU x y).d := by unfold qU; split <;> assumption
theorem WJ {x y : hM} (aa : 0 < x.d) (ai : 0 < y.d) : 0 < (qz x y).d := by unfold qz; split <;> assumption
theorem vh {p : Pa} {u v : Int} {own : Bool} (au : 0 < p.f.d) (aB : 0 < p.t.d) : 0 < (n6 p u v own).f.d ∧ 0 < (n6 p u v own).t.d := by
 unfold n6
 by_cases h1 : 0 < v - u
 ·rw [if_pos h1]; exact ⟨aaP au h1, aB⟩
 ·rw [if_neg h1]
  by_cases h2 : v - u < 0
  ·rw [if_pos h2]; exact ⟨au, WJ aB (by simp only; omega)⟩
  ·rw [if_neg h2]
   split
   ·exact ⟨by decide, by decide⟩
   ·exact ⟨au, aB⟩
def Pc (x y : hM) : Int := x.n * y.d + y.n * x.d
def HR (x y : hM) : Int := x.d * y.d + x.d * y.d
theorem abr {p : Pa} (au : 0 < p.f.d) (aB : 0 < p.t.d) (h : p.f.n * p.t.d < p.t.n * p.f.d) : 0 < HR p.f p.t ∧ po p (Pc p.f p.t) (HR p.f p.t) := by
 unfold Pc HR po qh qj;have hm : 0 < p.f.d * p.t.d := Int.mul_pos au aB;refine ⟨by omega, .inl ?_, .inl ?_⟩
 ·have := oQ h au;grind
 ·have := oQ h aB;grind
theorem Vg {p : Pa} (au : 0 < p.f.d) (aB : 0 < p.t.d) : vY p = true ↔ ∃ n d, 0 < d ∧ po p n d := by
 unfold vY;simp only [so, c5, b4]
 constructor
 ·intro h;rcases Bt p.f p.t with ⟨t, c⟩ | ⟨t, c⟩ | ⟨t, c⟩
  ·obtain ⟨h1, h2⟩ := abr au aB t;exact ⟨_, _, h1, h2⟩
  ·rcases h with h | ⟨⟨_, h1⟩, h2⟩
   ·omega
   ·exact ⟨p.f.n, p.f.d, au, .inr ⟨h1, rfl⟩, .inr ⟨h2, t⟩⟩
  ·rcases h with h | ⟨⟨h, _⟩, _⟩ <;> omega
 ·rintro ⟨n, d, hd, h1, h2⟩;rcases Bt p.f p.t with ⟨t, c⟩ | ⟨t, c⟩ | ⟨t, c⟩
  ·exact .inl c
  ·right;refine ⟨⟨c, ?_⟩, ?_⟩
   ·rcases h1 with h1 | ⟨h1, _⟩
    ·exfalso;rcases h2 with h2 | ⟨_, h2⟩
     ·have := uQ au hd aB h1 h2; omega
     ·have := wC au hd aB h1 h2; omega
    ·exact h1
   ·rcases h2 with h2 | ⟨h2, _⟩
    ·exfalso;rcases h1 with h1 | ⟨_, h1⟩
     ·have := uQ au hd aB h1 h2; omega
     ·have := wB au hd aB h1 h2; omega
    ·exact h2
  ·exfalso;rcases h1 with h1 | ⟨_, h1⟩ <;> rcases h2 with h2 | ⟨_, h2⟩
   ·have := uQ au hd aB h1 h2; omega
   ·have := wC au hd aB h1 h2; omega
   ·have := wB au hd aB h1 h2; omega
   ·have := FZ au hd aB h1 h2; omega
def s0 (cy v1 cz v2 jf v3 kJ v4 : Int) (o p : Bool) : Pa := n6 (n6 (n6 (n6 uE cy v1 o) cz v2 o) jf v3 p) kJ v4 p
theorem We (cy v1 cz v2 jf v3 kJ v4 : Int) (o p : Bool) : 0 < (s0 cy v1 cz v2 jf v3 kJ v4 o p).f.d ∧ 0 < (s0 cy v1 cz v2 jf v3 kJ v4 o p).t.d := by
 unfold s0;have h1 := vh (p := uE) (u := cy) (v := v1) (own := o) (by decide) (by decide);have h2 := vh (u := cz) (v := v2) (own := o) h1.1 h1.2;have ao := vh (u := jf) (v := v3) (own := p) h2.1 h2.2;exact vh (u := kJ) (v := v4) (own := p) ao.1 ao.2
theorem UL {n d : Int} (hd : 0 < d) : po uE n d ↔ 0 ≤ n ∧ n ≤ d := by
 unfold po qh qj uE;simp;omega
theorem LN {cy v1 cz v2 jf v3 kJ v4 n d : Int} {o p : Bool} (hd : 0 < d) : po (s0 cy v1 cz v2 jf v3 kJ v4 o p) n d ↔ (0 ≤ n ∧ n ≤ d) ∧ jA cy v1 o n d ∧ jA cz v2 o n d ∧ jA jf v3 p n d ∧ jA kJ v4 p n d := by
 unfold s0;have h1 := vh (p := uE) (u := cy) (v := v1) (own := o) (by decide) (by decide);have h2 := vh (u := cz) (v := v2) (own := o) h1.1 h1.2;have ao := vh (u := jf) (v := v3) (own := p) h2.1 h2.2;rw [CZ ao.1 ao.2 hd, CZ h2.1 h2.2 hd, CZ h1.1 h1.2 hd, CZ (by decide) (by decide) hd, UL hd];simp only [and_assoc]
def Met (cy v1 cz v2 jf v3 kJ v4 : Int) (o p : Bool) : Prop := ∃ n d, 0 < d ∧ (0 ≤ n ∧ n ≤ d) ∧ jA cy v1 o n d ∧ jA cz v2 o n d ∧ jA jf v3 p n d ∧ jA kJ v4 p n d
theorem Wd (cy v1 cz v2 jf v3 kJ v4 : Int) (o p : Bool) : vY (s0 cy v1 cz v2 jf v3 kJ v4 o p) = true ↔ Met cy v1 cz v2 jf v3 kJ v4 o p := by
 obtain ⟨h1, h2⟩ := We cy v1 cz v2 jf v3 kJ v4 o p;rw [Vg h1 h2]
 constructor
 ·rintro ⟨n, d, hd, h⟩; exact ⟨n, d, hd, (LN hd).1 h⟩
 ·rintro ⟨n, d, hd, h⟩; exact ⟨n, d, hd, (LN hd).2 h⟩
def vQ (X Y W a1 a2 b1 b2 : Int) : Prop := ∃ n d, 0 < d ∧ (0 ≤ n ∧ n ≤ d) ∧ X * d = W * (a1 * (d - n) + b1 * n) ∧ Y * d = W * (a2 * (d - n) + b2 * n)
theorem P8 {p1 p2 a1 a2 b1 b2 : Int} (h : df p1 p2 a1 a2 b1 b2) : vQ p1 p2 1 a1 a2 b1 b2 := by
 obtain ⟨az, h1, h2, ao, aD⟩ := h;unfold b0 at az;unfold gX at h1 ao;unfold gW at h2 aD;rcases Int.lt_trichotomy a1 b1 with g | g | g
 ·rw [if_neg (by omega)] at h1; rw [if_pos (show b1 > a1 from g)] at h2;exact ⟨p1 - a1, b1 - a1, by omega, by omega, by grind, by grind⟩
 ·subst g;rcases Int.lt_trichotomy a2 b2 with g | g | g
  ·rw [if_neg (by omega)] at ao; rw [if_pos (show b2 > a2 from g)] at aD;have : p1 = a1 := by split at h1 <;> split at h2 <;> omega
   exact ⟨p2 - a2, b2 - a2, by omega, by omega, by grind, by grind⟩
  ·subst g;have aF : p1 = a1 := by split at h1 <;> split at h2 <;> omega
   have aP : p2 = a2 := by split at ao <;> split at aD <;> omega
   exact ⟨0, 1, by omega, by omega, by grind, by grind⟩
  ·rw [if_pos g] at ao; rw [if_neg (by omega)] at aD;have : p1 = a1 := by split at h1 <;> split at h2 <;> omega
   exact ⟨a2 - p2, a2 - b2, by omega, by omega, by grind, by grind⟩
 ·rw [if_pos g] at h1; rw [if_neg (by omega)] at h2;exact ⟨a1 - p1, a1 - b1, by omega, by omega, by grind, by grind⟩
theorem I8 {v W : Int} (dV : 0 < W) (h : 0 ≤ v * W) : 0 ≤ v := by
 refine Int.not_lt.1 fun bb => ?_;have := Int.mul_lt_mul_of_pos_right bb dV;omega
theorem af0 {v W : Int} (dV : 0 < W) (h : 0 < v * W) : 0 < v := by
 refine Int.not_le.1 fun hle => ?_;have := nA hle (show 0 ≤ W by omega);omega
theorem Q8 {X Y W a1 a2 b1 b2 l1 l2 h1 h2 : Int} (dV : 0 < W) (h : vQ X Y W a1 a2 b1 b2) (g1 : l1 * W ≤ 2 * X) (g2 : l2 * W ≤ 2 * Y) (g3 : 2 * X < h1 * W) (g4 : 2 * Y < h2 * W) :
  Met (2 * a1 - l1) (2 * b1 - l1) (2 * a2 - l2) (2 * b2 - l2) (h1 - 2 * a1) (h1 - 2 * b1) (h2 - 2 * a2) (h2 - 2 * b2) true false := by
 obtain ⟨n, d, hd, ax, aF, aP⟩ := h
 have low : ∀ {X a b l : Int}, X * d = W * (a * (d - n) + b * n) → l * W ≤ 2 * X → jA (2 * a - l) (2 * b - l) true n d := fun {X a b l} e g => by
  have k := fY (show 0 ≤ d by omega) (show 0 ≤ 2 * X - l * W by omega);have bo : ((2 * a - l) * (d - n) + (2 * b - l) * n) * W = d * (2 * X - l * W) := by grind
  rw [← bo] at k;rcases Int.lt_or_eq_of_le (I8 dV k) with h | h
  ·exact .inl h
  ·exact .inr ⟨rfl, h.symm⟩
 have high : ∀ {X a b l : Int}, X * d = W * (a * (d - n) + b * n) → 2 * X < l * W → jA (l - 2 * a) (l - 2 * b) false n d := fun {X a b l} e g => by
  have k := Int.mul_pos hd (show 0 < l * W - 2 * X by omega);have bo : ((l - 2 * a) * (d - n) + (l - 2 * b) * n) * W = d * (l * W - 2 * X) := by grind
  rw [← bo] at k;exact .inl (af0 dV k)
 exact ⟨n, d, hd, ax, low aF g1, low aP g2, high aF g3, high aP g4⟩
theorem Q7 {X Y W a1 a2 b1 b2 : Int} (h : vQ X Y W a1 a2 b1 b2) : (b1 - a1) * (Y - a2 * W) = (b2 - a2) * (X - a1 * W) := by
 obtain ⟨n, d, hd, ax, aF, aP⟩ := h;have : d * ((b1 - a1) * (Y - a2 * W) - (b2 - a2) * (X - a1 * W)) = 0 := by grind
 rcases sq.1 this with h | h
 ·omega
 ·omega
theorem O2 {a1 a2 b1 b2 c1 c2 d1 d2 X Y W bf : Int} (h : c3 a1 a2 b1 b2 c1 c2 d1 d2 ≠ 0) (e : mB a1 a2 b1 b2 c1 c2 d1 d2 = jc X W Y bf) : bf = W ∧ 0 < W ∧ vQ X Y W c1 c2 d1 d2 := by
 obtain ⟨_, bU⟩ := Sv h;unfold mB tC at e
 split at e
 ·rename_i aD;obtain ⟨_, _, bn, bY⟩ := aD;have aF := congrArg fz.n e;have aP := congrArg fz.d e;have cr := congrArg fz.m e;have ew := congrArg fz.e e;simp only [jc] at aF aP cr ew;have pG := H4 a1 a2 b1 b2 c1 c2 d1 d2;have tf := H5 a1 a2 b1 b2 c1 c2 d1 d2;have hw := Js a1 a2 b1 b2 c1 c2 d1 d2;rw [← aP, ← ew];refine ⟨rfl, PK h, ?_⟩;rw [rF] at bn bY;unfold jt at aF cr bn bY;unfold iA at bn bY ⊢
  by_cases hs : c3 a1 a2 b1 b2 c1 c2 d1 d2 < 0
  ·rw [if_pos hs] at aF cr bn bY ⊢;rw [if_pos hs] at bn bY
   have := (Bn (x := d1) (y := c1) (u := d2) (v := c2) (A := -b0 a1 a2 b1 b2 d1 d2) (B := -b0 a1 a2 b1 b2 c1 c2) (D := -c3 a1 a2 b1 b2 c1 c2 d1 d2) (by omega) (by omega) (by omega)).1 ⟨by
    rw [show c1 * -b0 a1 a2 b1 b2 d1 d2 - d1 * -b0 a1 a2 b1 b2 c1 c2 = -jM a1 a2 b1 b2 c1 c2 d1 d2 by grind]; exact bn, by
    rw [show c2 * -b0 a1 a2 b1 b2 d1 d2 - d2 * -b0 a1 a2 b1 b2 c1 c2 = -jN a1 a2 b1 b2 c1 c2 d1 d2 by grind]; exact bY⟩
   exact ⟨b0 a1 a2 b1 b2 c1 c2, -c3 a1 a2 b1 b2 c1 c2 d1 d2, by omega, by omega, by rw [← aF]; grind, by rw [← cr]; grind⟩
  ·rw [if_neg hs] at aF cr bn bY ⊢;rw [if_neg hs] at bn bY
   have := (Bn (x := d1) (y := c1) (u := d2) (v := c2) (A := b0 a1 a2 b1 b2 d1 d2) (B := b0 a1 a2 b1 b2 c1 c2) (D := c3 a1 a2 b1 b2 c1 c2 d1 d2) (by omega) (by omega) (by omega)).1 ⟨by
    rw [pG]; exact bn, by
    rw [tf]; exact bY⟩
   exact ⟨-b0 a1 a2 b1 b2 c1 c2, c3 a1 a2 b1 b2 c1 c2 d1 d2, by omega, by omega, by rw [← aF]; grind, by rw [← cr]; grind⟩
 ·have := congrArg fz.k e;simp [hU, jc] at this
theorem C8 {a1 a2 b1 b2 c1 c2 d1 d2 X Y W bf : Int} (e : ih a1 a2 b1 b2 c1 c2 d1 d2 = jc X W Y bf) : bf = W ∧ 0 < W ∧ vQ X Y W a1 a2 b1 b2 ∧ vQ X Y W c1 c2 d1 d2 ∧ (∀ p1 p2, df p1 p2 a1 a2 b1 b2 → df p1 p2 c1 c2 d1 d2 → X = p1 * W ∧ Y = p2 * W) := by
 unfold ih at e
 split at e
 ·rename_i hw;unfold vf inl at e
  split at e
  ·rename_i G6;obtain ⟨o1, o2⟩ := G6;unfold ve at e
   split at e
   ·rename_i wM;have aF := congrArg fz.n e;have aP := congrArg fz.d e;have cr := congrArg fz.m e;have ew := congrArg fz.e e;simp only [jc] at aF aP cr ew;subst aP; subst ew;rw [zN] at o1 o2;rw [aF, cr] at o1 o2;refine ⟨rfl, by decide, P8 o1, P8 o2, fun p1 p2 hp an => ?_⟩
    have Ze : oY (eH a1 a2 b1 b2) (en a1 a2 b1 b2) (ep a1 a2 b1 b2) (ea a1 a2 b1 b2) (eH c1 c2 d1 d2) (en c1 c2 d1 d2) (ep c1 c2 d1 d2) (ea c1 c2 d1 d2) = 0 := by
     rw [Sw] at hw;rcases np a1 a2 b1 b2 with ⟨h1, h2, ao, aD, _⟩ | ⟨h1, h2, ao, aD, _⟩ <;> rcases np c1 c2 d1 d2 with ⟨bn, bY, fW, iX, _⟩ | ⟨bn, bY, fW, iX, _⟩ <;> rw [h1, h2, ao, aD, bn, bY, fW, iX] <;> unfold oY at hw ⊢ <;> grind
    obtain ⟨_, _, _, _, l1, l2⟩ := OS (w7 a1 a2 b1 b2) (w7 c1 c2 d1 d2) Ze (zN.2 hp) (zN.2 an);rw [← wM.1, ← wM.2] at l2;have := dv.Be l1 l2;omega
   ·have := congrArg fz.k e;simp [sR, jc] at this
  ·have := congrArg fz.k e;simp [hU, jc] at this
 ·rename_i hw;obtain ⟨g1, g2, g3⟩ := O2 hw e;have nl : c3 c1 c2 d1 d2 a1 a2 b1 b2 ≠ 0 := by rw [Ev]; omega
  obtain ⟨_, _, g4⟩ := O2 nl (by rw [abk hw]; exact e);refine ⟨g1, g2, g4, g3, fun p1 p2 hp an => ?_⟩;have l1 := Q7 g4;have l2 := Q7 g3;have q1 := hp.1;have q2 := an.1;unfold b0 at q1 q2
  have line : ∀ {a1 a2 b1 b2 : Int}, (b1 - a1) * (Y - a2 * W) = (b2 - a2) * (X - a1 * W) → (b1 - a1) * (p2 - a2) - (b2 - a2) * (p1 - a1) = 0 → (b1 - a1) * (Y - p2 * W) = (b2 - a2) * (X - p1 * W) := fun {a1 a2 b1 b2} l q => by
   have z : (b1 - a1) * (Y - p2 * W) - (b2 - a2) * (X - p1 * W) = ((b1 - a1) * (Y - a2 * W) - (b2 - a2) * (X - a1 * W)) - ((b1 - a1) * (p2 - a2) - (b2 - a2) * (p1 - a1)) * W := by grind
   rw [q, l, Int.zero_mul] at z;omega
  have m1 := line l1 q1;have m2 := line l2 q2
  have h3 : c3 a1 a2 b1 b2 c1 c2 d1 d2 * (X - p1 * W) = 0 := by
   have z : c3 a1 a2 b1 b2 c1 c2 d1 d2 * (X - p1 * W) = (b1 - a1) * ((d2 - c2) * (X - p1 * W)) - (d1 - c1) * ((b2 - a2) * (X - p1 * W)) := by unfold c3; grind
   rw [z, ← m1, ← m2, Int.mul_left_comm];omega
  have z2 : c3 a1 a2 b1 b2 c1 c2 d1 d2 * (Y - p2 * W) = 0 := by
   have z : c3 a1 a2 b1 b2 c1 c2 d1 d2 * (Y - p2 * W) = (d2 - c2) * ((b1 - a1) * (Y - p2 * W)) - (b2 - a2) * ((d1 - c1) * (Y - p2 * W)) := by unfold c3; grind
   rw [z, m1, m2, Int.mul_left_comm];omega
  have jk := (sq.1 h3).resolve_left hw;have qg := (sq.1 z2).resolve_left hw;omega
def xT (S : Int) (p q x : Int × Int) : Prop := Met (2 * (S * p.1) - (2 * (S * x.1) - S)) (2 * (S * q.1) - (2 * (S * x.1) - S)) (2 * (S * p.2) - (2 * (S * x.2) - S)) (2 * (S * q.2) - (2 * (S * x.2) - S)) (2 * (S * x.1) + S - 2 * (S * p.1)) (2 * (S * x.1) + S - 2 * (S * q.1)) (2 * (S * x.2) + S - 2 * (S * p.2)) (2 * (S * x.2) + S - 2 * (S * q.2)) true false
def AV (S X Y W : Int) (x : Int × Int) : Prop := ((2 * (S * x.1) - S) * W ≤ 2 * X ∧ 2 * X < (2 * (S * x.1) + S) * W) ∧ (2 * (S * x.2) - S) * W ≤ 2 * Y ∧ 2 * Y < (2 * (S * x.2) + S) * W
abbrev JZ (S : Int) (x p q : Int × Int) : Prop := df (S * x.1) (S * x.2) (S * p.1) (S * p.2) (S * q.1) (S * q.2)
theorem P5 (S : Int) (p q : Int × Int) : JZ S p p q := by
 refine ⟨Fw .., ?_⟩;unfold r6 gX gW
 split <;> split <;> split <;> split <;> omega
theorem P6 (S : Int) (p q : Int × Int) : JZ S q p q := by
 refine ⟨LK .., ?_⟩;unfold r6 gX gW
 split <;> split <;> split <;> split <;> omega
theorem abo {S : Int} (hS : 0 < S) {p q fH cd x : Int × Int} {X Y W bf : Int} (e : ih (S * p.1) (S * p.2) (S * q.1) (S * q.2) (S * fH.1) (S * fH.2) (S * cd.1) (S * cd.2) = jc X W Y bf) (aa : AV S X Y W x) (h1 : xT S p q x → x = p ∨ x = q) (h2 : xT S fH cd x → x = fH ∨ x = cd) :
  (x = p ∨ x = q) ∧ (x = fH ∨ x = cd) ∧ X = S * x.1 * W ∧ Y = S * x.2 * W := by
 obtain ⟨_, dV, g1, g2, g3⟩ := C8 e;obtain ⟨⟨b1, b2⟩, dm, cY⟩ := aa;have bn := h1 (Q8 dV g1 b1 dm b2 cY);have bY := h2 (Q8 dV g2 b1 dm b2 cY);refine ⟨bn, bY, g3 _ _ ?_ ?_⟩
 ·rcases bn with rfl | rfl
  ·exact P5 ..
  ·exact P6 ..
 ·rcases bY with rfl | rfl
  ·exact P5 ..
  ·exact P6 ..
end Go.Proofs.YtbcecodakfejaaaGreat
namespace Go.Proofs.YtbcecodakfejaaaGreat.bq
abbrev iM := Int × Int
abbrev O1 (S : Int) (l m : iM × iM) : fz := ih (S * l.1.1) (S * l.1.2) (S * l.2.1) (S * l.2.2) (S * m.1.1) (S * m.1.2) (S * m.2.1) (S * m.2.2)
def x6 (l m : iM × iM) : Prop := l.1 = m.1 ∨ l.1 = m.2 ∨ l.2 = m.1 ∨ l.2 = m.2
structure x3 (S : Int) (o : cP iM) : Prop where
 pos : 0 < S
 YS : ∀ p q x, o.Ck p q x = true → xT S p q x
 Nn : ∀ p q x, o.gT p → o.gT q → o.gT x → xT S p q x → o.Ck p q x = true
 LM : ∀ l m x, o.cut l m = some x → ¬ x6 l m ∧ ∃ X Y W bf, O1 S l m = jc X W Y bf ∧ AV S X Y W x
 Wc : ∀ l m, o.gT l.1 → o.gT l.2 → o.gT m.1 → o.gT m.2 → o.cut l m = none → (O1 S l m).k = 1 → x6 l m
theorem x3.own {S : Int} {o : cP iM} (h : x3 S o) {hot : List iM} (aq : ∀ y ∈ hot, o.gT y) {p q x : iM} (hp : p ∈ hot) (an : q ∈ hot) (aa : x ∈ hot) (hs : ry o hot p q) (hm : xT S p q x) : x = p ∨ x = q := by
 have h1 := hs x aa;have h2 := h.Nn p q x (aq _ hp) (aq _ an) (aq _ aa) hm;unfold jo at h1;rw [h2, Bool.and_true, Bool.and_eq_false_iff] at h1;rcases h1 with h1 | h1
 ·exact .inl (by simpa using h1)
 ·exact .inr (by simpa using h1)
theorem x3.Wg {S : Int} {o : cP iM} (h : x3 S o) (hot : List iM) (p q fH cd x : iM) (aq : ∀ y ∈ hot, o.gT y) (hp : p ∈ hot) (an : q ∈ hot) (ng : fH ∈ hot) (qP : cd ∈ hot) (hs : ry o hot p q) (Cx : ry o hot fH cd) (al : o.cut (p, q) (fH, cd) = some x) : x ∉ hot := fun aa => by
 obtain ⟨ax, X, Y, W, bf, e, fD⟩ := h.LM _ _ _ al;obtain ⟨g1, g2, _⟩ := abo h.pos e fD (h.own aq hp an aa hs) (h.own aq ng qP aa Cx);refine ax ?_;unfold x6;rcases g1 with rfl | rfl <;> rcases g2 with g2 | g2
 ·exact .inl g2
 ·exact .inr (.inl g2)
 ·exact .inr (.inr (.inl g2))
 ·exact .inr (.inr (.inr g2))
end Go.Proofs.YtbcecodakfejaaaGreat.bq
namespace Go.Proofs.YtbcecodakfejaaaGreat
def gi (S X W : Int) : Int := (2 * X + S * W) / (2 * (S * W))
theorem DM {S W : Int} (hS : 0 < S) (dV : 0 < W) (X : Int) : (2 * (S * gi S X W) - S) * W ≤ 2 * X ∧ 2 * X < (2 * (S * gi S X W) + S) * W := by
 have XU := Int.mul_pos hS dV;unfold gi;have h1 := o6 (2 * X + S * W) (2 * (S * W));have h2 := nB (2 * X + S * W) (show 2 * (S * W) ≠ 0 by omega);have ao := mK (2 * X + S * W) (show 0 < 2 * (S * W) by omega);generalize (2 * X + S * W) / (2 * (S * W)) = g at *;generalize (2 * X + S * W) % (2 * (S * W)) = m at *;have aF : (2 * (S * g) - S) * W = 2 * (S * W) * g - S * W := by grind
 have aP : (2 * (S * g) + S) * W = 2 * (S * W) * g + S * W := by grind
 omega
theorem ZT {S X Y W : Int} (hS : 0 < S) (dV : 0 < W) : AV S X Y W (gi S X W, gi S Y W) := ⟨DM hS dV X, DM hS dV Y⟩
theorem Rf {S X W n d p q g : Int} (hS : 0 < S) (dV : 0 < W) (hd : 0 < d) (ax : 0 ≤ n ∧ n ≤ d) (e : X * d = W * (S * p * (d - n) + S * q * n)) (h1 : (2 * (S * g) - S) * W ≤ 2 * X) (h2 : 2 * X < (2 * (S * g) + S) * W) : (p ≤ q → p ≤ g ∧ g ≤ q) ∧ (q ≤ p → q ≤ g ∧ g ≤ p) := by
 have XU := Int.mul_pos hS dV
 have abb : ∀ {b : Int}, b ≤ p → b ≤ q → S * W * b ≤ X := fun {b} bn bY => by
  have m1 := fY (show 0 ≤ S * W by omega) (fY (show 0 ≤ p - b by omega) (show 0 ≤ d - n by omega));have m2 := fY (show 0 ≤ S * W by omega) (fY (show 0 ≤ q - b by omega) ax.1);have bo : (X - S * W * b) * d = S * W * ((p - b) * (d - n)) + S * W * ((q - b) * n) := by grind
  have := I8 (v := X - S * W * b) hd (by rw [bo]; omega);omega
 have YR : ∀ {b : Int}, p ≤ b → q ≤ b → X ≤ S * W * b := fun {b} bn bY => by
  have m1 := fY (show 0 ≤ S * W by omega) (fY (show 0 ≤ b - p by omega) (show 0 ≤ d - n by omega));have m2 := fY (show 0 ≤ S * W by omega) (fY (show 0 ≤ b - q by omega) ax.1);have bo : (S * W * b - X) * d = S * W * ((b - p) * (d - n)) + S * W * ((b - q) * n) := by grind
  have := I8 (v := S * W * b - X) hd (by rw [bo]; omega);omega
 have low : ∀ {b : Int}, b ≤ p → b ≤ q → b ≤ g := fun {b} bn bY => by
  have pG := abb bn bY;refine Int.not_lt.1 fun bb => ?_;have m := od (show g + 1 ≤ b by omega) (show 0 ≤ S * W by omega);have aP : (2 * (S * g) + S) * W = 2 * (S * W * (g + 1)) - S * W := by grind
  omega
 have high : ∀ {b : Int}, p ≤ b → q ≤ b → g ≤ b := fun {b} bn bY => by
  have pG := YR bn bY;refine Int.not_lt.1 fun bb => ?_;have m := od (show b + 1 ≤ g by omega) (show 0 ≤ S * W by omega);have aF : (2 * (S * g) - S) * W = 2 * (S * W * g) - S * W := by grind
  have cr : S * W * (b + 1) = S * W * b + S * W := by grind
  omega
 exact ⟨fun h => ⟨low (mH _) h, high h (mH _)⟩, fun h => ⟨low h (mH _), high (mH _) h⟩⟩
def eU (lt : Int × Int → Int × Int → Bool) : List (Int × Int) → List (Int × Int) → List (Int × Int)
 | [], b => b
 | x :: a, [] => x :: a
 | x :: a, y :: b => if lt y x then y :: eU lt (x :: a) b else x :: eU lt a (y :: b)
termination_by a b => a.length + b.length
theorem HZ (lt : Int × Int → Int × Int → Bool) (a : List (Int × Int)) : eU lt a [] = a := by cases a <;> simp [eU]
theorem abC (lt : Int × Int → Int × Int → Bool) (a : List (Int × Int)) : eU lt [] a = a := by simp [eU]
theorem HY (lt : Int × Int → Int × Int → Bool) : ∀ a b, (eU lt a b).length = a.length + b.length := by
 intro a b
 induction a, b using eU.induct lt with
 | case1 b => simp [eU]
 | case2 x a => simp [eU]
 | case3 x a y b h bI => rw [eU, if_pos h, jQ, bI]; simp; omega
 | case4 x a y b h bI => rw [eU, if_neg h, jQ, bI]; simp; omega
def iH (lt : Int × Int → Int × Int → Bool) (l : List (Int × Int)) : List (Int × Int) :=
 if h : l.length < 2 then l else eU lt (iH lt (l.take (l.length / 2))) (iH lt (l.drop (l.length / 2)))
termination_by l.length
decreasing_by all_goals (simp; omega)
theorem Ee (lt : Int × Int → Int × Int → Bool) : ∀ (N : Nat) (l : List (Int × Int)), l.length ≤ N → (iH lt l).length = l.length
 | 0, l, h => by rw [iH, dif_pos (by omega)]
 | N + 1, l, h => by
  rw [iH]
  split
  ·rfl
  ·rw [HY, Ee lt N _ (by simp; omega), Ee lt N _ (by simp; omega)];simp; omega
end Go.Proofs.YtbcecodakfejaaaGreat
namespace Go.Proofs.YtbcecodakfejaaaGreat
open Go.RowKit
structure JL where
 v : Value
 n : Nat
 xs : List Value
section
variable {P : Program} {B qi : eZ} {A dU : Nat → Prop} {s s' : aC} {ad : Nat → Nat} {a : Act} {w w' : World}
theorem Rel.yj (h : Rel B A s ad a w) (di : ∀ b, A b → b < w.heap.size → dU b ∧ w'.heap[b]? = w.heap[b]?) (cD : ∀ k cs, s.mem k = some cs → w'.heap[ad k]? = w.heap[ad k]? ∧ ¬ qi.F (ad k)) (Ya : j3 qi w') (Hl : ∀ b, qi.W.heap.size ≤ b → dU b) (Gx : ui qi s ad) (u0 : qi.marks = B.marks := by rfl) : Rel qi dU s ad a w' := by
 have M4 : ∀ b, s.free A ad b → b < w.heap.size → s.free dU ad b ∧ w'.heap[b]? = w.heap[b]? := fun b ab ak => ⟨⟨(di b ab.1 ak).1, ab.2⟩, (di b ab.1 ak).2⟩;refine ⟨h.pY.trans u0.symm, h.size, fun t av aB => ?_, fun k cs af => ?_, h.inj, Ya, Hl, Gx⟩
 ·obtain ⟨v, h1, h2⟩ := h.hc t av aB;exact ⟨v, h1, h2.map M4 fun _ _ => rfl⟩
 ·obtain ⟨vs, ty, h1, h2, ao⟩ := h.dC k cs af;exact ⟨vs, ty, by rw [(cD k cs af).1]; exact h1, h2.map M4 fun _ _ _ _ => rfl, (cD k cs af).2⟩
theorem Rel.Rw {d : Nat} {av bv : ah} (h : Rel B A s ad a w) (hd : s.tmps d = some bv) (hv : ∀ v, a.tmps[d]? = some v → cX (s.free A ad) ad w bv v → cX (s.free A ad) ad w av v) : Rel B A (s.put (some d) av) ad a w := by
 refine ⟨h.pY, h.size, fun t cv aB => ?_, h.dC, h.inj, h.below, h.up, h.j7⟩;simp only [aC.put] at aB
 by_cases e : t = d
 ·subst e;rw [cl] at aB;cases aB;obtain ⟨v, h1, h2⟩ := h.hc t bv hd;exact ⟨v, h1, hv v h1 h2⟩
 ·rw [b9 _ _ e] at aB;exact h.hc t cv aB
def nW (B : eZ) (s : aC) (ad : Nat → Nat) (w : World) : eZ := ⟨w, fun b => b < w.heap.size ∧ ∀ k cs, s.mem k = some cs → ad k ≠ b, fun _ h => h.1, fun k => if s.n ≤ k then some (ad k) else none, B.marks⟩
theorem wH {B : eZ} (s : aC) (ad : Nat → Nat) (w : World) : ui (nW B s ad w) s ad := fun k b af => by
 simp only [nW] at af
 split at af
 ·rename_i h; exact ⟨h, ny af⟩
 ·cases af
theorem Vh {bw : eZ} {s s' : aC} {ad a7 : Nat → Nat} {w w' : World} {A : Nat → Prop} {a' : Act} (h : ui bw s ad) (ct : Rel (nW bw s ad w) A s' a7 a' w') : ui bw s' a7 := fun k b af => by
 obtain ⟨h1, h2⟩ := h k b af;obtain ⟨ao, aD⟩ := ct.j7 k (ad k) (by simp [nW, h1]);exact ⟨ao, aD.trans h2⟩
theorem Rel.hot (h : Rel B A s ad a w) (Hl : ∀ b, w.heap.size ≤ b → A b) : Rel (nW B s ad w) A s ad a w :=
 h.yj (fun b h _ => ⟨h, rfl⟩) (fun k cs af => ⟨rfl, fun au => au.2 k cs af rfl⟩) (j3.refl _) Hl (wH _ _ _)
theorem Qd {base : Nat} {e : TypeId} {sz : Nat} {v : Value} {n : Nat} {xs : List Value} (h : w.ownsRow base e sz v n xs) (aq : ∀ g, v.ownBlock = some g → w'.heap[g]? = w.heap[g]?) : w'.ownsRow base e sz v n xs := by
 refine ⟨h.1, ?_⟩;rcases h.2 with ax | ⟨g, cap, cur, rfl, ab, tn, rest⟩
 ·exact .inl ax
 ·exact .inr ⟨g, cap, cur, rfl, ab, (aq g rfl).trans tn, rest⟩
end
section
variable {P : Program} {e sz : Nat} {t : JL} {s : aC} {Q : Exit → JL → aC → Prop} {x y c : Code}
theorem RR (w : World) (base : Nat) (t ty e : TypeId) (i : TypeInfo) (z : Value) (size bytes : Nat) (aB : P.underlying t = some (.slice e)) (hi : P.info? e = some i) (aN : i.zero = some z)
  (hB : i.size = size) (kY : i.bytes = bytes) (oM : z.cells.size = size) (bF : 0 < size)
  (v : Value) (n : Nat) (xs : List Value) (cD : w.ownsRow base e size v n xs)
  (a : Addr) (m c : Nat) (news : List Value) (ak : news.length = m * size) (k0 : ∀ j u, news[j]? = some u → w.cell? (a.add j) = some u) (h1 : ∀ u ∈ news, u.oneCell' = true)
  (Ge : n + m ≤ maxLen) (GB : (n + m) * bytes ≤ 140737488355328) (nW : base ≤ w.heap.size) (hm : 0 < m) :
  ∃ v' w', (Builtin.append_ #[t, t] ty #[v, .slice (some a) m c]).run P w = .ok v' w' ∧ w'.ownsRow base e size v' (n + m) (xs ++ news) ∧ w.grownBy w' v.ownBlock ∧ (∀ g, v'.ownBlock = some g → v.ownBlock = some g ∨ w.heap.size ≤ g) ∧ v'.oneCell' = true := by
 obtain ⟨v', w', ap, h2, ao, aD⟩ := run_append_own (P := P) w base t ty e i z size bytes aB hi aN hB kY oM bF v n xs cD a m c news ak k0 h1 Ge GB nW;refine ⟨v', w', ap, h2, ao, ?_, ?_⟩
 ·have pU : n + m ≤ 9223372036854775807 := by simp only [maxLen] at Ge; omega
  rcases cD.2 with ⟨rfl, rfl⟩ | ⟨g, cap, cur, rfl, qH, aq, eO, iS, eu, n3⟩
  ·have aa : xs = [] := jv (by simpa using cD.1);subst aa;have := run_append_nil (P := P) w t ty e i z aB hi aN a m c news (by rw [hB]; exact ak) k0 hm (by omega) (by rw [kY]; simp only [je] at GB; omega);rw [this] at ap;cases ap;intro g aq;simp [Value.ownBlock] at aq;exact .inr (by omega)
  ·by_cases k1 : n + m ≤ cap
   ·have wN : n * i.size + news.length ≤ cur.size := by rw [hB, ak, eu, ← kf]; exact kg _ k1
    have := run_append_room (P := P) w t ty e i aB hi g n cap cur aq a m c news (by rw [hB]; exact ak) k0 h1 k1 wN;rw [this] at ap;cases ap;intro jn dW;exact .inl dW
   ·have holds : ∀ j u, xs[j]? = some u → w.cell? ((⟨g, 0, none⟩ : Addr).add j) = some u := cD.cells (g := g) rfl;have := run_append_grow (P := P) w t ty e i z aB hi aN ⟨g, 0, none⟩ n cap xs (by rw [hB]; exact cD.1) holds a m c news (by rw [hB]; exact ak) k0 (by omega) (by omega) (growslice_fits (by omega) (by rw [kY]; exact GB));rw [this] at ap;cases ap;intro jn dW;simp [Value.ownBlock] at dW;exact .inr (by omega)
 ·rcases h2.2 with ⟨rfl, _⟩ | ⟨g, cap, cur, rfl, _⟩ <;> rfl
def vx (P : Program) (tt e sz bytes : Nat) : Bool := match P.underlying tt, P.info? e with
 | some (.slice bo), some i => match i.zero with
  | some z => Nat.beq bo e && Nat.beq i.size sz && Nat.beq i.bytes bytes && Nat.beq z.cells.size sz && Nat.blt 0 sz
  | none => false
 | _, _ => false
class mV (P : Program) (tt : TypeId) (e sz bytes : outParam Nat) : Prop where
 h : vx P tt e sz bytes = true
theorem rj {tt e sz bytes : Nat} (h : vx P tt e sz bytes = true) : ∃ (i : TypeInfo) (z : Value), P.underlying tt = some (.slice e) ∧ P.info? e = some i ∧ i.zero = some z ∧ i.size = sz ∧ i.bytes = bytes ∧ z.cells.size = sz ∧ 0 < sz := by
 unfold vx at h
 split at h
 ·rename_i bo i hu hi
  split at h
  ·rename_i z aN;simp only [c5] at h;obtain ⟨⟨⟨⟨h1, h2⟩, ao⟩, aD⟩, cm⟩ := h;rw [hr h1] at hu;exact ⟨i, z, hu, hi, aN, hr h2, hr ao, hr aD, by simpa [Nat.blt_eq] using cm⟩
  ·cases h
 ·cases h
end
structure bE where
 e : Nat
 sz : Nat
 v : Value
 n : Nat
 aT : List AC
abbrev aI := Nat → Option bE
def gh : aI := fun _ => none
def bt (i : Nat) (r : bE) : aI := bG gh i r
def bz (R ay : aI) : Prop := ∀ i r, R i = some r → ay i = some r
theorem bz.refl (R : aI) : bz R R := fun _ _ h => h
theorem kI (f : aI) (i : Nat) (r : bE) : bz (bt i r) (bG f i r) := by
 intro j q h
 by_cases e : j = i
 ·subst e; rw [bt, cl] at h; rw [cl]; exact h
 ·rw [bt, b9 _ _ e] at h; cases h
def jx (v : Value) (off : Nat) : Value := match v with
 | .slice (some a) _ _ => .pointer (some (a.add off))
 | _ => .pointer none
def hb (v : Value) (z lo hi : Nat) : Value := match v with
 | .slice A _ c => sliced A lo hi c z
 | _ => v
def bE.own (r : bE) (b : Nat) : Prop := r.v.ownBlock = some b ∨ (r.sz = 0 ∧ ∃ S w, r.aT = [.p S] ∧ S.holds w r.v ∧ S.kW w r.v b)
def bE.ok (U : Nat → Prop) (ad : Nat → Nat) (w : World) (r : bE) : Prop :=
 (0 < r.sz ∧ ∃ xs, w.ownsRow 0 r.e r.sz r.v r.n xs ∧ bL U ad w r.aT xs) ∨ (r.sz = 0 ∧ r.n = 0 ∧ r.v.ownBlock = none ∧ (∃ S, r.aT = [.p S] ∧ S.holds w r.v) ∧ ∀ b, r.own b → b < w.heap.size)
theorem bE.oV {r : bE} {b : Nat} (h : r.own b) (hs : 0 < r.sz) : r.v.ownBlock = some b := by
 rcases h with h | ⟨h, _⟩
 ·exact h
 ·omega
theorem bE.ok.row {U : Nat → Prop} {ad : Nat → Nat} {w : World} {r : bE} (h : r.ok U ad w) (hs : 0 < r.sz) : ∃ xs, w.ownsRow 0 r.e r.sz r.v r.n xs ∧ bL U ad w r.aT xs := by
 rcases h with ⟨_, h⟩ | ⟨h, _⟩
 ·exact h
 ·omega
theorem bE.ok.pos {U : Nat → Prop} {ad : Nat → Nat} {w : World} {r : bE} (h : r.ok U ad w) (ax : 0 < r.n) : 0 < r.sz := by
 rcases h with ⟨h, _⟩ | ⟨_, h, _⟩
 ·exact h
 ·omega
theorem bE.ok.lt {U : Nat → Prop} {ad : Nat → Nat} {w : World} {r : bE} (h : r.ok U ad w) {g : Nat} (aq : r.own g) : g < w.heap.size := by
 rcases h with ⟨hs, xs, aA, _⟩ | ⟨_, _, _, _, h⟩
 ·exact (aA.lt g (aq.elim id fun h => by omega)).2
 ·exact h g aq
theorem bE.ok.kept {U cw : Nat → Prop} {ad a7 : Nat → Nat} {w w' : World} {r : bE} (h : r.ok U ad w) (al : ∀ y ∈ r.aT, y.aY = true) (af : ∀ g, r.own g → w'.heap[g]? = w.heap[g]?) (bF : w.heap.size ≤ w'.heap.size) (di : ∀ b, U b → b < w.heap.size → cw b ∧ w'.heap[b]? = w.heap[b]?) : r.ok cw a7 w' := by
 rcases h with ⟨hs, xs, aA, ak⟩ | ⟨hs, ax, hv, ⟨S, hS, aR⟩, bb⟩
 ·exact .inl ⟨hs, xs, Qd aA fun g q => af g (.inl q), ak.map di fun j x aa ae => absurd ae (AC.dq (al x aa) j)⟩
 ·exact .inr ⟨hs, ax, hv, ⟨S, hS, (S.frame w w' r.v aR fun b ab => af b (.inr ⟨hs, S, w, hS, aR, ab⟩)).1⟩, fun b ab => sn (bb b ab) bF⟩
structure uB (bw : eZ) (A : Nat → Prop) (s : aC) (ad : Nat → Nat) (w : World) (r : bE) : Prop where
 ok : r.ok (s.free A ad) ad w
 pA : ∀ y ∈ r.aT, y.aY = true
 own : ∀ g, r.own g → ¬ A g ∧ ∀ k cs, s.mem k = some cs → ad k ≠ g
theorem uB.cells {bw : eZ} {A : Nat → Prop} {s : aC} {ad : Nat → Nat} {w : World} {r : bE} (h : uB bw A s ad w r) (hs : 0 < r.sz) : ∃ xs, w.ownsRow 0 r.e r.sz r.v r.n xs ∧ bL (s.free A ad) ad w r.aT xs := h.ok.row hs
structure ev (bw : eZ) (bK : Nat → Prop) (R : aI) (s : aC) (a : Act) (w : World) (A : Nat → Prop) (ad : Nat → Nat) : Prop where
 up : ∀ b, bw.W.heap.size ≤ b → bK b
 sub : ∀ b, A b → bK b
 rel : Rel (nW bw s ad w) A s ad a w
 oO : ∀ k cs, s.mem k = some cs → ¬ bw.F (ad k)
 below : j3 bw w
 rows : ∀ i r, R i = some r → uB bw A s ad w r
 apart : ∀ i j r q, R i = some r → R j = some q → i ≠ j → ∀ g, r.own g → ¬ q.own g
 hot : ∀ i r g, R i = some r → r.own g → ¬ bw.F g ∧ bK g
 j7 : ui bw s ad
def pq (bw : eZ) (bK : Nat → Prop) (R : aI) (s : aC) (a : Act) (w : World) : Prop := ∃ A ad, ev bw bK R s a w A ad
section
variable {P : Program} {bw : eZ} {bK A : Nat → Prop} {R : aI} {s s' : aC} {a a' : Act} {w w' : World} {ad a7 : Nat → Nat} {o bm bu : Oper} {ops : Array Oper}
theorem bL.wo {U cw : Nat → Prop} {xs : List AC} {vs : List Value} (h : bL U ad w xs vs) (al : ∀ y ∈ xs, y.aY = true) (di : ∀ b, U b → b < w.heap.size → cw b ∧ w'.heap[b]? = w.heap[b]?) : bL cw a7 w' xs vs :=
 h.map di fun j x aa ae => absurd ae (AC.dq (al x aa) j)
theorem ev.next (h : ev bw bK R s a w A ad) (ct : Rel (nW bw s ad w) A s' a7 a' w') : ev bw bK R s' a' w' A a7 := by
 have GC : ∀ k cs, s'.mem k = some cs → w.heap.size ≤ a7 k ∨ ∃ j cs, s.mem j = some cs ∧ ad j = a7 k := by
  intro k cs af;obtain ⟨_, _, _, _, hF⟩ := ct.dC k cs af;rcases hZ (a7 k) w.heap.size with ak | ak
  ·exact .inr (Classical.byContradiction fun ax => hF ⟨ak, fun j cs ae e => ax ⟨j, cs, ae, e⟩⟩)
  ·exact .inl ak
 have jG : ∀ b, s.free A ad b → b < w.heap.size → s'.free A a7 b ∧ w'.heap[b]? = w.heap[b]? := fun b ab ak => by
  refine ⟨⟨ab.1, fun k cs af e => ?_⟩, ct.below.block b ⟨ak, fun k cs af => ab.2 k cs af⟩⟩;rcases GC k cs af with h1 | ⟨j, ar, ae, bo⟩
  ·omega
  ·exact ab.2 j ar ae (bo.trans e)
 refine ⟨h.up, h.sub, ct.hot fun b ab => ct.up b (il ct.below.size ab), fun k cs af au => ?_, ⟨ct.below.os.trans h.below.os, ct.below.tape.trans h.below.tape, ct.below.output.trans h.below.output, il h.below.size ct.below.size, fun b au => ?_⟩, fun i r hi => ?_, h.apart, h.hot, Vh h.j7 ct⟩
 ·rcases GC k cs af with h1 | ⟨j, ar, ae, e⟩
  ·have := bw.lt _ au; have := h.below.size; omega
  ·rw [← e] at au; exact h.oO j ar ae au
 ·exact (ct.below.block b ⟨sn (bw.lt b au) h.below.size, fun k cs af e => h.oO k cs af (by rw [e]; exact au)⟩).trans (h.below.block b au)
 ·obtain ⟨lp, al, aq⟩ := h.rows i r hi;refine ⟨lp.kept al (fun g q => ct.below.block g ⟨lp.lt q, (aq g q).2⟩) ct.below.size jG, al, fun g q => ⟨(aq g q).1, fun k cs af he => ?_⟩⟩;rcases GC k cs af with h1 | ⟨j, ar, ae, e⟩
  ·have := lp.lt q; omega
  ·exact (aq g q).2 j ar ae (e.trans he)
theorem ev.put {d : Option Nat} {av : ah} {v : Value} (h : ev bw bK R s a w A ad) (hd : ∀ d', d = some d' → d' < s.n) (hv : cX (s.free A ad) ad w av v) : ev bw bK R (s.put d av) (a.put d v) w A ad := h.next (h.rel.put hd hv)
theorem ev.le {ay : aI} (h : ev bw bK R s a w A ad) (l : bz ay R) : ev bw bK ay s a w A ad :=
 ⟨h.up, h.sub, h.rel, h.oO, h.below, fun i r hi => h.rows i r (l i r hi), fun i j r q hi ae => h.apart i j r q (l i r hi) (l j q ae), fun i r g hi => h.hot i r g (l i r hi), h.j7⟩
theorem ev.OQ (h : ev bw bK R s a w A ad) (l : s.aS s') : ev bw bK R s' a w A ad := h.next (h.rel.le l)
inductive kN (P : Program) (R : aI) (look : Operand → Option ah) (o : Oper) : ah → Prop
 | len (i : Nat) (r : bE) (t z : Nat) (x : Operand) (hi : R i = some r) (bF : 0 < r.sz) (aA : o.op = .call ⟨.builtin .len, #[x], #[t]⟩) (aa : look x = some (aQ r.v)) (aB : sC P t = some z) : kN P R look o (aE r.n)
 | idx (i : Nat) (r : bE) (t : Nat) (x y : Operand) (gV : IntKind) (j : Int) (hi : R i = some r) (aA : o.op = .indexAddr t x y) (aa : look x = some (aQ r.v)) (ai : look y = some (aQ (.int gV j))) (az : 0 ≤ j) (h1 : j < r.n) (aB : sC P t = some r.sz) : kN P R look o (aQ (jx r.v (j.toNat * r.sz)))
 | nV (i : Nat) (r : bE) (off t f h7 : Nat) (x : Operand) (hi : R i = some r) (ax : 0 < r.n) (aA : o.op = .fieldAddr t x f) (aa : look x = some (aQ (jx r.v off))) (aB : s9 P t f = some h7) : kN P R look o (aQ (jx r.v (off + h7)))
 | load (i : Nat) (r : bE) (off lt : Nat) (x : Operand) (av : bx) (hi : R i = some r) (ax : 0 < r.n) (aA : o.op = .load lt x) (aa : look x = some (aQ (jx r.v off))) (hv : pick P lt r.aT off = some av) : kN P R look o (.w av)
 | sl (i : Nat) (r : bE) (t lo hi : Nat) (x : Operand) (ug sF : Option Operand) (c4 : R i = some r) (bF : 0 < r.sz) (aA : o.op = .slice t x ug sF none) (aa : look x = some (aQ r.v)) (ak : (ug = none ∧ lo = 0 ∧ sF ≠ none) ∨ ∃ y, ug = some y ∧ look y = some (aQ (.int .i64 lo))) (aR : (sF = none ∧ hi = r.n) ∨ ∃ y, sF = some y ∧ look y = some (aQ (.int .i64 hi))) (h1 : lo ≤ hi) (h2 : hi ≤ r.n) (aB : sC P t = some r.sz) : kN P R look o (aQ (hb r.v r.sz lo hi))
 | zB (i : Nat) (r : bE) (t z lo hi : Nat) (x : Operand) (c4 : R i = some r) (bF : 0 < r.sz) (aA : o.op = .call ⟨.builtin .len, #[x], #[t]⟩) (aa : look x = some (aQ (hb r.v r.sz lo hi))) (aB : sC P t = some z) : kN P R look o (aE ((hi - lo : Nat) : Int))
 | zp (i : Nat) (r : bE) (t lo hi : Nat) (x y : Operand) (gV : IntKind) (j : Int) (c4 : R i = some r) (aA : o.op = .indexAddr t x y) (aa : look x = some (aQ (hb r.v r.sz lo hi))) (ai : look y = some (aQ (.int gV j))) (az : 0 ≤ j) (h1 : j < ((hi - lo : Nat) : Int)) (h2 : hi ≤ r.n) (aB : sC P t = some r.sz) : kN P R look o (aQ (jx r.v ((lo + j.toNat) * r.sz)))
theorem kN.congr {look gz : Operand → Option ah} {av : ah} (h : kN P R look o av) (e : ∀ x ∈ o.op.operands, gz x = look x) : kN P R gz o av := by
 cases h with
 | len i r t z x hi bF aA aa aB => exact .len i r t z x hi bF aA (by rw [e x (by simp [aA, Op.operands, Call.operands])]; exact aa) aB
 | idx i r t x y gV j hi aA aa ai az h1 aB => exact .idx i r t x y gV j hi aA (by rw [e x (by simp [aA, Op.operands])]; exact aa) (by rw [e y (by simp [aA, Op.operands])]; exact ai) az h1 aB
 | nV i r off t f h7 x hi ax aA aa aB => exact .nV i r off t f h7 x hi ax aA (by rw [e x (by simp [aA, Op.operands])]; exact aa) aB
 | load i r off lt x av hi ax aA aa hv => exact .load i r off lt x av hi ax aA (by rw [e x (by simp [aA, Op.operands])]; exact aa) hv
 | sl i r t lo hi x ug sF c4 bF aA aa ak aR h1 h2 aB =>
  refine .sl i r t lo hi x ug sF c4 bF aA (by rw [e x (by simp [aA, Op.operands])]; exact aa) ?_ ?_ h1 h2 aB
  ·rcases ak with h | ⟨y, rfl, h⟩
   ·exact .inl h
   ·exact .inr ⟨y, rfl, by rw [e y (by simp [aA, Op.operands])]; exact h⟩
  ·rcases aR with h | ⟨y, rfl, h⟩
   ·exact .inl h
   ·exact .inr ⟨y, rfl, by rw [e y (by simp [aA, Op.operands])]; exact h⟩
 | zB i r t z lo hi x c4 bF aA aa aB => exact .zB i r t z lo hi x c4 bF aA (by rw [e x (by simp [aA, Op.operands, Call.operands])]; exact aa) aB
 | zp i r t lo hi x y gV j c4 aA aa ai az h1 h2 aB => exact .zp i r t lo hi x y gV j c4 aA (by rw [e x (by simp [aA, Op.operands])]; exact aa) (by rw [e y (by simp [aA, Op.operands])]; exact ai) az h1 h2 aB
theorem kN.rows {ay : aI} {look : Operand → Option ah} {av : ah} (h : kN P R look o av) (l : bz R ay) : kN P ay look o av := by
 cases h with
 | len i r t z x hi bF aA aa aB => exact .len i r t z x (l _ _ hi) bF aA aa aB
 | idx i r t x y gV j hi aA aa ai az h1 aB => exact .idx i r t x y gV j (l _ _ hi) aA aa ai az h1 aB
 | nV i r off t f h7 x hi ax aA aa aB => exact .nV i r off t f h7 x (l _ _ hi) ax aA aa aB
 | load i r off lt x av hi ax aA aa hv => exact .load i r off lt x av (l _ _ hi) ax aA aa hv
 | sl i r t lo hi x ug sF c4 bF aA aa ak aR h1 h2 aB => exact .sl i r t lo hi x ug sF (l _ _ c4) bF aA aa ak aR h1 h2 aB
 | zB i r t z lo hi x c4 bF aA aa aB => exact .zB i r t z lo hi x (l _ _ c4) bF aA aa aB
 | zp i r t lo hi x y gV j c4 aA aa ai az h1 h2 aB => exact .zp i r t lo hi x y gV j (l _ _ c4) aA aa ai az h1 h2 aB
theorem ael {U : Nat → Prop} {ty : TypeId} {aT : List AC} {off : Nat} {av : bx} {xs : List Value} {b : Addr} (hv : pick P ty aT off = some av) (ak : bL U ad w aT xs) (al : ∀ j u, xs[j]? = some u → w.cell? (b.add j) = some u) :
  ∃ v, (loadVar ty (b.add off)).run P w = .ok v w ∧ fR U ad w av v := by
 unfold pick at hv
 have key : ∀ d, P.underlying ty = some d → ((∃ bg, d = .struct bg) ∨ ∃ n e, d = .array n e) → ((P.info? ty).bind fun i => if off + i.size ≤ aT.length then some (bx.agg ((aT.drop off).take i.size)) else none) = some av → ∃ v, (loadVar ty (b.add off)).run P w = .ok v w ∧ fR U ad w av v := by
  intro d hu hd h;cases hi : P.info? ty with
  | none => rw [hi] at h; cases h
  | some i =>
   rw [hi] at h;simp only [kh] at h
   split at h
   ·rename_i hle;cases h;have hs := ak.sub off i.size;have hlen : ((xs.drop off).take i.size).length = i.size := by have := ak.1; simp; omega
    refine ⟨_, IV hu hd hi hlen (fun j v ae => ?_), _, rfl, hs⟩;have jH : j < i.size := by rw [← hlen]; exact (bA.1 ae).1
    rw [fw jH, fP] at ae;rw [yd];exact al _ v ae
   ·cases h
 have HI : ∀ d, P.underlying ty = some d → (∀ bg, d ≠ .struct bg) → (∀ n e, d ≠ .array n e) → (aT[off]?).map bx.one = some av → ∃ v, (loadVar ty (b.add off)).run P w = .ok v w ∧ fR U ad w av v := by
  intro d hu h1 h2 h;cases aa : aT[off]? with
  | none => rw [aa] at h; cases h
  | some x =>
   rw [aa] at h;cases h;have bb : off < xs.length := by rw [← ak.1]; exact (bA.1 aa).1
   have hv := bJ bb;exact ⟨_, IW hu h1 h2 (al off _ hv), ak.2 off x _ aa hv⟩
 cases hu : P.underlying ty with
 | none => rw [hu] at hv; cases hv
 | some d =>
  rw [hu] at hv;cases d <;> first | exact key _ hu (.inl ⟨_, rfl⟩) hv | exact key _ hu (.inr ⟨_, _, rfl⟩) hv | exact HI _ hu (fun _ h => by cases h) (fun _ _ h => by cases h) hv
theorem uB.slice {r : bE} (h : uB bw A s ad w r) (bF : 0 < r.sz) : ∃ eY c, r.v = .slice eY r.n c ∧ (0 < r.n → ∃ g, eY = some ⟨g, 0, none⟩) := by
 obtain ⟨xs, aA, _⟩ := h.cells bF;rcases aA.2 with ⟨e, cq⟩ | ⟨g, cap, cur, e, _⟩
 ·exact ⟨none, 0, by rw [e, cq], fun h => by omega⟩
 ·exact ⟨_, _, e, fun _ => ⟨g, rfl⟩⟩
theorem uB.D8 {r : bE} (h : uB bw A s ad w r) (bF : 0 < r.sz) : ∃ eY c, r.v = .slice eY r.n c ∧ r.n ≤ c ∧ (0 < r.n → ∃ g, eY = some ⟨g, 0, none⟩) := by
 obtain ⟨xs, aA, _⟩ := h.cells bF;rcases aA.2 with ⟨e, cq⟩ | ⟨g, cap, cur, e, _, _, eO, _⟩
 ·exact ⟨none, 0, by rw [e, cq], by omega, fun h => by omega⟩
 ·exact ⟨_, _, e, eO, fun _ => ⟨g, rfl⟩⟩
theorem RE {g n c z lo hi : Nat} (h1 : lo < hi) (h2 : hi ≤ c) : hb (.slice (some ⟨g, 0, none⟩) n c) z lo hi = .slice (some ((⟨g, 0, none⟩ : Addr).add (lo * z))) (hi - lo) (c - lo) := by
 unfold hb sliced;simp only;rw [if_neg (by omega)]; rfl
theorem kN.sound {av : ah} (h : kN P R s.look o av) (aw : ev bw bK R s a w A ad) : ∃ v, (execOp a.eval o).run P w = .ok (.value v) w ∧ cX (s.free A ad) ad w av v := by
 cases h with
 | len i r t z x hi bF aA aa aB =>
  obtain ⟨eY, c, e, _⟩ := (aw.rows i r hi).slice bF;have hv : a.eval x = r.v := (aw.rel.look aa).1;obtain ⟨el, eE, hu, _, _⟩ := mN aB;have e4 : P.underlying t = some (.slice (P.elem t)) := by rw [kr hu]; exact hu
  refine ⟨.int .i64 r.n, ?_, rfl, rfl⟩;have em : (#[x] : Array Operand).map a.eval = #[.slice eY r.n c] := by simp [hv, e]
  simp only [execOp, aA, resolve, em, Sem.run_bind, Sem.run_pure, Result.andThen_ok, invoke, builtin];rw [run_len_slice w t _ eY r.n c e4];rfl
 | idx i r t x y gV j hi aA aa ai az h1 aB =>
  obtain ⟨eY, c, e, ec⟩ := (aw.rows i r hi).slice ((aw.rows i r hi).ok.pos (by omega));obtain ⟨g, rfl⟩ := ec (by omega);have hv : a.eval x = r.v := (aw.rel.look aa).1;have ae : a.eval y = .int gV j := (aw.rel.look ai).1;obtain ⟨el, eE, hu, c4, hs⟩ := mN aB;refine ⟨jx r.v (j.toNat * r.sz), ?_, rfl, by rw [e]; rfl⟩;rw [e] at hv ⊢;simp only [execOp, aA, Instr.indexAt, hv, ae, asIntOf, Sem.run_bind, Sem.run_pure, Result.andThen_ok, run_underlying hu, hK c4, if_pos (And.intro az h1), hs, jx]
 | nV i r off t f h7 x hi ax aA aa aB =>
  obtain ⟨eY, c, e, ec⟩ := (aw.rows i r hi).slice ((aw.rows i r hi).ok.pos (by omega));obtain ⟨g, rfl⟩ := ec ax;have hv : a.eval x = jx r.v off := (aw.rel.look aa).1;rw [e] at hv ⊢;unfold s9 at aB
  split at aB
  ·rename_i bg hu;cases au : bg[f]? with
   | none => rw [au] at aB; cases aB
   | some fd =>
    rw [au] at aB;simp only [kh] at aB;cases hi : P.info? fd.type with
    | none => rw [hi] at aB; cases aB
    | some eE =>
     rw [hi] at aB;simp only [kh] at aB
     split at aB
     ·cases aB
     ·rename_i bU;cases aB;refine ⟨_, ?_, rfl, rfl⟩;simp only [execOp, aA, Instr.fieldAt, hv, jx, Instr.sureAddr, Sem.run_bind, Sem.run_pure, Result.andThen_ok, run_underlying hu, au, fieldPlace, hK hi, if_neg bU, yd]
  ·cases aB
 | load i r off lt x av hi ax aA aa hv =>
  have cT := aw.rows i r hi;obtain ⟨eY, c, e, ec⟩ := cT.slice (cT.ok.pos ax);obtain ⟨g, rfl⟩ := ec ax;have CD : a.eval x = jx r.v off := (aw.rel.look aa).1;obtain ⟨xs, hj, ak⟩ := cT.cells (cT.ok.pos ax);obtain ⟨v, h1, h2⟩ := ael hv ak (hj.cells (g := g) (by rw [e]; rfl));rw [e] at CD;refine ⟨v, ?_, h2⟩;simp only [execOp, aA, Instr.loadAt, CD, jx, Instr.sureAddr, Sem.run_bind, Sem.run_pure, Result.andThen_ok, h1]
 | sl i r t lo hi x ug sF c4 bF aA aa ak aR h1 h2 aB =>
  obtain ⟨eY, c, e, eO, _⟩ := (aw.rows i r c4).D8 bF;have hv : a.eval x = r.v := (aw.rel.look aa).1;rw [e] at hv;obtain ⟨el, eE, hu, e3, hs⟩ := mN aB;have e4 : P.underlying t = some (.slice (P.elem t)) := by rw [kr hu]; exact hu
  have n0 : (hb r.v r.sz lo hi).oneCell' = true := by rw [e]; rfl
  refine ⟨_, ?_, rfl, n0⟩;rw [e];rcases ak with ⟨rfl, rfl, bU⟩ | ⟨y, rfl, ai⟩
  ·rcases aR with ⟨rfl, _⟩ | ⟨y, rfl, ai⟩
   ·exact absurd rfl bU
   ·have jm : a.eval y = .int .i64 hi := (aw.rel.look ai).1;simp only [execOp, aA, hv, ha, sr, jm, Sem.run_bind, run_sliceAt_slice w t _ _ _ _ e4, run_slice_h w t eY r.n c e4 .i64 hi (by omega) (by omega), kr hu, hK e3, Result.andThen_ok, hs, Sem.run_pure, kH, hb]
  ·have jm : a.eval y = .int .i64 lo := (aw.rel.look ai).1;rcases aR with ⟨rfl, rfl⟩ | ⟨y', rfl, ZH⟩
   ·simp only [execOp, aA, hv, ha, sr, jm, Sem.run_bind, run_sliceAt_slice w t _ _ _ _ e4, run_slice_l w t eY r.n c e4 .i64 lo (by omega) (by omega), kr hu, hK e3, Result.andThen_ok, hs, Sem.run_pure, kH, hb]
   ·have W7 : a.eval y' = .int .i64 hi := (aw.rel.look ZH).1;simp only [execOp, aA, hv, ha, sr, jm, W7, Sem.run_bind, run_sliceAt_slice w t _ _ _ _ e4, run_slice_lh w t eY r.n c e4 .i64 .i64 lo hi (by omega) (by omega) (by omega), kr hu, hK e3, Result.andThen_ok, hs, Sem.run_pure, kH, hb]
 | zB i r t z lo hi x c4 bF aA aa aB =>
  obtain ⟨eY, c, e, _, _⟩ := (aw.rows i r c4).D8 bF;have hv : a.eval x = hb r.v r.sz lo hi := (aw.rel.look aa).1;obtain ⟨el, eE, hu, _, _⟩ := mN aB;have e4 : P.underlying t = some (.slice (P.elem t)) := by rw [kr hu]; exact hu
  refine ⟨.int .i64 ((hi - lo : Nat) : Int), ?_, rfl, rfl⟩;rw [e] at hv;unfold hb sliced at hv;simp only at hv;have em : (#[x] : Array Operand).map a.eval = #[.slice (if c = lo then eY else eY.map (·.add (lo * r.sz))) (hi - lo) (c - lo)] := by simp only [List.map_toArray, kG, List.map_nil, hv]
  simp only [execOp, aA, resolve, em, Sem.run_bind, Sem.run_pure, Result.andThen_ok, invoke, builtin];rw [run_len_slice w t _ _ _ _ e4];rfl
 | zp i r t lo hi x y gV j c4 aA aa ai az h1 h2 aB =>
  obtain ⟨eY, c, e, eO, ec⟩ := (aw.rows i r c4).D8 ((aw.rows i r c4).ok.pos (by omega));obtain ⟨g, rfl⟩ := ec (by omega);have hv : a.eval x = hb r.v r.sz lo hi := (aw.rel.look aa).1;have ae : a.eval y = .int gV j := (aw.rel.look ai).1;obtain ⟨el, eE, hu, e3, hs⟩ := mN aB;rw [e, RE (by omega) (by omega)] at hv;refine ⟨jx r.v ((lo + j.toNat) * r.sz), ?_, rfl, by rw [e]; rfl⟩;rw [e];simp only [execOp, aA, Instr.indexAt, hv, ae, asIntOf, Sem.run_bind, Sem.run_pure, Result.andThen_ok, run_underlying hu, hK e3, if_pos (And.intro az h1), hs, jx, yd, kf]
theorem afC (w : World) (s3 Ak ty elem : TypeId) (g o qy yu z : Nat) (a : Addr) (rk Aj : Nat) (cur : Array Value) (t : TypeId) (cs : List Value)
  (hu : P.underlying s3 = some (.slice elem)) (hs : (P.info? elem).map (·.size) = some z)
  (aq : w.heap[g]? = some (.cells cur t (0, 0))) (ax : cs.length = Nat.min rk qy * z)
  (Hj : ∀ j v, cs[j]? = some v → w.cell? (a.add j) = some v) (wN : o + cs.length ≤ cur.size) (h1 : ∀ v ∈ cs, v.oneCell' = true) :
  (Builtin.copy_ #[s3, Ak] ty #[.slice (some ⟨g, o, none⟩) qy yu, .slice (some a) rk Aj]).run P w =
   .ok (goInt (Nat.min rk qy)) (w.setRow g (cur.toList.take o ++ cs ++ cur.toList.drop (o + cs.length)).toArray) := by
 have ak := run_loadCells_list (P := P) w a cs Hj;have iz := run_storeCells_at P g o t cs 0 cur w aq (by simpa using wN) h1;cases an : P.info? elem with
 | none => simp [an] at hs
 | some i =>
  have hi : i.size = z := by simpa [an] using hs
  simp [Builtin.copy_, run_underlying hu, Builtin.lenOf, Builtin.firstCells, sizeOf, typeInfo, an, hi, ← ax, ak, iz]
theorem afB (w : World) (s3 Ak ty elem : TypeId) (d a : Option Addr) (qy yu rk Aj z : Nat) (hu : P.underlying s3 = some (.slice elem)) (hs : (P.info? elem).map (·.size) = some z) (ax : Nat.min rk qy = 0) :
  (Builtin.copy_ #[s3, Ak] ty #[.slice d qy yu, .slice a rk Aj]).run P w = .ok (goInt 0) w := by
 cases an : P.info? elem with
 | none => simp [an] at hs
 | some i =>
  have ak : ∀ (x : Addr), (loadCells x 0).run P w = .ok #[] w := fun x => by simpa using run_loadCells_list (P := P) w x [] (by simp)
  cases d <;> cases a <;> simp [Builtin.copy_, run_underlying hu, Builtin.lenOf, Builtin.firstCells, sizeOf, typeInfo, an, ax, storeCells, ak]
theorem agK {cur us : List Value} {off N : Nat} (h : off + us.length ≤ N) (ey : N ≤ cur.length) : (cur.take off ++ us ++ cur.drop (off + us.length)).take N = (cur.take N).take off ++ us ++ (cur.take N).drop (off + us.length) := by
 apply List.ext_getElem?;intro j;have t1 : (cur.take off).length = off := by rw [dX]; omega
 have t2 : ((cur.take N).take off).length = off := by rw [dX, dX]; omega
 by_cases ae : j < N
 ·rw [fw ae]
  by_cases qR : j < off
  ·rw [im, gl (by rw [t1]; exact qR), fw qR, im, gl (by rw [t2]; exact qR), fw qR, fw ae]
  ·by_cases CR : j < off + us.length
   ·rw [im, gL (by omega), gl (by omega), im, gL (by omega), gl (by omega), t1, t2]
   ·rw [gL (by simp only [cF, t1]; omega), gL (by simp only [cF, t2]; omega), fP, fP];simp only [cF, t1, t2];rw [fw (by omega)]
 ·rw [l7 (by rw [dX]; omega), l7];simp only [cF, dX, h0];omega
abbrev A0 : Value → Prop := fun v => v.oneCell' = true
def iN (v : Value) (z lo hi : Nat) (u : Value) : Prop := (∃ eY c, u = .slice eY (hi - lo) c) ∧ (lo < hi → ∃ g n c, v = .slice (some ⟨g, 0, none⟩) n c ∧ hi ≤ c ∧ u = .slice (some ⟨g, lo * z, none⟩) (hi - lo) (c - lo))
theorem Ba (g o k : Nat) : (⟨g, o, none⟩ : Addr).add k = ⟨g, o + k, none⟩ := by unfold Addr.add; split <;> simp_all
theorem iN.all {A : Option Addr} {n c : Nat} (z : Nat) (h1 : n ≤ c) (h2 : 0 < n → ∃ g, A = some ⟨g, 0, none⟩) : iN (.slice A n c) z 0 n (.slice A n c) :=
 ⟨⟨A, c, rfl⟩, fun h => by obtain ⟨g, rfl⟩ := h2 h; exact ⟨g, n, c, rfl, h1, by simp⟩⟩
theorem iN.sl {v u : Value} {z lo hi k m : Nat} (h : iN v z lo hi u) (hm : hi - lo = m) (af : k ≤ m) (ak : lo ≤ hi) : iN v z (lo + k) hi (hb u z k m) := by
 subst hm;obtain ⟨⟨eY, c, e⟩, h2⟩ := h;refine ⟨⟨_, _, by rw [e]; unfold hb sliced; rw [Nat.sub_sub]⟩, fun bb => ?_⟩;obtain ⟨g, n, c', aF, ao, aP⟩ := h2 (by omega);refine ⟨g, n, c', aF, ao, ?_⟩;rw [aP];unfold hb sliced;simp only;rw [if_neg (by omega), ha, Ba, Nat.sub_sub, Nat.sub_sub, kf]
theorem iN.agl {v u : Value} {z lo hi k : Nat} (h : iN v z lo hi u) (af : lo + k ≤ hi) : iN v z lo (lo + k) (hb u z 0 k) := by
 obtain ⟨⟨eY, c, e⟩, h2⟩ := h;refine ⟨⟨_, _, by rw [e]; unfold hb sliced; rw [show lo + k - lo = k - 0 by omega]⟩, fun bb => ?_⟩;obtain ⟨g, n, c', aF, ao, aP⟩ := h2 (by omega);refine ⟨g, n, c', aF, by omega, ?_⟩;rw [aP];unfold hb sliced;simp only;rw [if_neg (by omega), ha, Ba];simp
def AM (R : aI) (look : Operand → Option ah) (y : Operand) (z m : Nat) (news : List AC) : Prop :=
 look y = some (cM z m news) ∨ ∃ j q lo u, R j = some q ∧ q.sz = z ∧ look y = some (aQ u) ∧ iN q.v z lo (lo + m) u ∧ lo + m ≤ q.n ∧ news = (q.aT.drop (lo * z)).take (m * z)
inductive kO (P : Program) (R : aI) (look : Operand → Option ah) (o : Oper) : (Value → aI) → (Value → Prop) → Prop
 | uF (i : Nat) (r : bE) (tt bytes m : Nat) (jy j1 : Operand) (news : List AC) (hi : R i = some r) (aA : o.op = .call ⟨.builtin .append, #[jy, j1], #[tt, tt]⟩) (aB : vx P tt r.e r.sz bytes = true) (aa : look jy = some (aQ r.v)) (ai : look j1 = some (cM r.sz m news)) (h1 : r.n + m ≤ maxLen) (h2 : (r.n + m) * bytes ≤ 140737488355328) (al : ∀ y ∈ news, y.aY = true) :
   kO P R look o (fun v' => bG R i ⟨r.e, r.sz, v', r.n + m, r.aT ++ news⟩) A0
 | new (i t n e sz bytes : Nat) (parts : List (Nat × Operand)) (vs : List Value) (zs : List (Nat × bx)) (r : List AC) (hi : R i = none) (aA : o.op = .buildSlice t n parts.toArray) (aB : vx P t e sz bytes = true) (dQ : xy P t = some vs) (aN : nr look parts = some zs) (ab : qw (xl n sz) (h4 n sz vs) zs = some r)
   (h1 : (vs.all fun v => v.oneCell') = true) (hs : vs.length = sz) (h2 : n * sz ≤ 16777216) (ao : n ≤ maxLen) (ap : r.length = n * sz) (cC : ∀ y ∈ r, y.aY = true) : kO P R look o (fun v' => bG R i ⟨e, sz, v', n, r⟩) A0
 | make (i t l c e sz bytes : Nat) (x y : Operand) (oN pW : IntKind) (vs : List Value) (hi : R i = none) (aA : o.op = .makeSlice t x y) (aB : vx P t e sz bytes = true) (dQ : xy P t = some vs) (aa : look x = some (aQ (.int oN l))) (ai : look y = some (aQ (.int pW c))) (ak : l ≤ c) (h1 : (vs.all fun v => v.oneCell') = true) (hs : vs.length = sz) (h2 : bytes * c ≤ 281474976710656) (ao : c ≤ maxLen) : kO P R look o (fun v' => bG R i ⟨e, sz, v', l, h4 l sz vs⟩) A0
 | copy (i : Nat) (r : bE) (tt t2 m lo hi : Nat) (x y : Operand) (news : List AC) (c4 : R i = some r) (bF : 0 < r.sz) (aA : o.op = .call ⟨.builtin .copy, #[x, y], #[tt, t2]⟩) (aB : sC P tt = some r.sz) (aa : (look x = some (aQ r.v) ∧ lo = 0 ∧ hi = r.n) ∨ look x = some (aQ (hb r.v r.sz lo hi)) ∨ ∃ u, look x = some (aQ u) ∧ iN r.v r.sz lo hi u) (ai : AM R look y r.sz m news) (h1 : lo ≤ hi) (h2 : hi ≤ r.n) (al : ∀ y ∈ news, y.aY = true) :
   kO P R look o (fun _ => bG R i ⟨r.e, r.sz, r.v, r.n, eD r.aT (lo * r.sz) (news.take (Nat.min m (hi - lo) * r.sz))⟩) (fun v' => v' = .int .i64 ((Nat.min m (hi - lo) : Nat) : Int))
theorem OW {look gz : Operand → Option ah} : ∀ (parts : List (Nat × Operand)), (∀ p ∈ parts, gz p.2 = look p.2) → nr gz parts = nr look parts
 | [], _ => rfl
 | (i, x) :: parts, h => by
  simp only [nr];rw [h (i, x) (by simp), OW parts fun p hp => h p (by simp [hp])]
theorem kO.congr {look gz : Operand → Option ah} {f : Value → aI} {hq : Value → Prop} (h : kO P R look o f hq) (e : ∀ x ∈ o.op.operands, gz x = look x) : kO P R gz o f hq := by
 cases h with
 | uF i r tt bytes m jy j1 news hi aA aB aa ai h1 h2 al =>
  exact .uF i r tt bytes m jy j1 news hi aA aB (by rw [e jy (by simp [aA, Op.operands, Call.operands])]; exact aa) (by rw [e j1 (by simp [aA, Op.operands, Call.operands])]; exact ai) h1 h2 al
 | new i t n el sz bytes parts vs zs r hi aA aB dQ aN ab h1 hs h2 ao ap cC =>
  refine .new i t n el sz bytes parts vs zs r hi aA aB dQ ?_ ab h1 hs h2 ao ap cC;rw [OW parts fun p hp => e p.2 ?_]
  ·exact aN
  ·simp only [aA, Op.operands, List.mem_toArray, gm];exact ⟨p, hp, rfl⟩
 | make i t l c el sz bytes x y oN pW vs hi aA aB dQ aa ai ak h1 hs h2 ao =>
  exact .make i t l c el sz bytes x y oN pW vs hi aA aB dQ (by rw [e x (by simp [aA, Op.operands])]; exact aa) (by rw [e y (by simp [aA, Op.operands])]; exact ai) ak h1 hs h2 ao
 | copy i r tt t2 m lo hi x y news c4 bF aA aB aa ai h1 h2 al =>
  exact .copy i r tt t2 m lo hi x y news c4 bF aA aB (by rw [e x (by simp [aA, Op.operands, Call.operands])]; exact aa) (by unfold AM; rw [e y (by simp [aA, Op.operands, Call.operands])]; exact ai) h1 h2 al
theorem bL.append {U : Nat → Prop} {xs aT : List AC} {vs us : List Value} (h : bL U ad w xs vs) (k : bL U ad w aT us) : bL U ad w (xs ++ aT) (vs ++ us) := by
 refine ⟨by rw [cF, cF, h.1, k.1], fun i x v aa hv => ?_⟩;rcases hZ i xs.length with ak | ak
 ·rw [gl ak] at aa;rw [gl (by rw [← h.1]; exact ak)] at hv;exact h.2 i x v aa hv
 ·rw [gL ak] at aa;rw [gL (by rw [← h.1]; exact ak), ← h.1] at hv;exact k.2 _ x v aa hv
theorem ev.F9 {i : Nat} {r : bE} {w2 : World} {xs : List Value} (h : ev bw bK R s a w A ad) (ik : Option Nat) (hold : ∀ g, ik = some g → ∃ q, R i = some q ∧ q.own g) (bF : 0 < r.sz) (iT : w.grownBy w2 ik)
  (ap : w2.ownsRow 0 r.e r.sz r.v r.n xs) (ll : ∀ g, r.v.ownBlock = some g → ik = some g ∨ w.heap.size ≤ g) (ak : bL (s.free A ad) ad w r.aT xs) (al : ∀ y ∈ r.aT, y.aY = true) :
  ∃ dU, ev bw bK (bG R i r) s a w2 dU ad := by
 have pP : ∀ b, s.free A ad b → b < w.heap.size → w2.heap[b]? = w.heap[b]? := fun b ab fb => iT.block b fb fun e => by
  obtain ⟨q, an, aq⟩ := hold b e.symm;exact ((h.rows i q an).own b aq).1 ab.1
 have pO : ∀ k cs, s.mem k = some cs → w2.heap[ad k]? = w.heap[ad k]? := fun k cs af => iT.block _ (h.rel.lt af) fun e => by
  obtain ⟨q, an, aq⟩ := hold _ e.symm;exact ((h.rows i q an).own _ aq).2 k cs af rfl
 have XG : Rel (nW bw s ad w2) (fun b => (A b ∧ b < w.heap.size) ∨ (w2.heap.size ≤ b)) s ad a w2 :=
  h.rel.yj (fun b dc fb => ⟨.inl ⟨dc, fb⟩, iT.block b fb fun e => by
   obtain ⟨q, an, aq⟩ := hold b e.symm;exact ((h.rows i q an).own b aq).1 dc⟩) (fun k cs af => ⟨pO k cs af, fun au => au.2 k cs af rfl⟩) (j3.refl _) (fun b ab => .inr ab) (wH _ _ _)
 have jG : ∀ b, s.free A ad b → b < w.heap.size → s.free (fun b => (A b ∧ b < w.heap.size) ∨ w2.heap.size ≤ b) ad b ∧ w2.heap[b]? = w.heap[b]? := fun b ab fb => ⟨⟨.inl ⟨ab.1, fb⟩, ab.2⟩, pP b ab fb⟩
 have main : ev bw bK (bG R i r) s a w2 (fun b => (A b ∧ b < w.heap.size) ∨ w2.heap.size ≤ b) ad := by
  refine ⟨h.up, ?_, XG, h.oO, ⟨iT.os.trans h.below.os, iT.tape.trans h.below.tape, iT.output.trans h.below.output, il h.below.size iT.size, fun b au => ?_⟩, fun j q ae => ?_, fun j k q cd ae af kz g aq => ?_, fun j q g ae aq => ?_, h.j7⟩
  ·rintro b (ab | ab)
   ·exact h.sub b ab.1
   ·exact h.up b (by have := h.below.size; have := iT.size; omega)
  ·refine (iT.block b (sn (bw.lt b au) h.below.size) fun e => ?_).trans (h.below.block b au);obtain ⟨q, an, aq⟩ := hold b e.symm;exact (h.hot i q b an aq).1 au
  ·by_cases e : j = i
   ·subst e;rw [cl] at ae;cases ae;refine ⟨.inl ⟨bF, xs, ap, ak.wo al jG⟩, al, fun g aq => ?_⟩
    replace aq := bE.oV aq bF
    refine ⟨?_, fun k cs af => ?_⟩
    ·rintro (ab | ab)
     ·rcases ll g aq with q | q
      ·obtain ⟨p, hp, pQ⟩ := hold g q;exact ((h.rows j p hp).own g pQ).1 ab.1
      ·omega
     ·have := (ap.lt g aq).2; omega
    ·rcases ll g aq with q | q
     ·obtain ⟨p, hp, pQ⟩ := hold g q;exact ((h.rows j p hp).own g pQ).2 k cs af
     ·have := h.rel.lt af; omega
   ·rw [b9 _ _ e] at ae;obtain ⟨lp, NV, NW⟩ := h.rows j q ae;refine ⟨lp.kept NV (fun g aq => iT.block g (lp.lt aq) fun bo => ?_) iT.size jG, NV, fun g aq => ⟨?_, (NW g aq).2⟩⟩
    ·obtain ⟨p, hp, pQ⟩ := hold g bo.symm;exact h.apart j i q p ae hp e g aq pQ
    ·rintro (ab | ab)
     ·exact (NW g aq).1 ab.1
     ·have := lp.lt aq; have := iT.size; omega
  ·have P4 : ∀ j q, R j = some q → ∀ g, q.own g → g < w.heap.size := fun j q ae g aq => (h.rows j q ae).ok.lt aq
   by_cases e : j = i
   ·subst e;rw [cl] at ae;cases ae;rw [b9 _ _ (Ne.symm kz)] at af;intro dW;rcases ll g (bE.oV aq bF) with p | p
    ·obtain ⟨fH, hp, pQ⟩ := hold g p;exact h.apart j k fH cd hp af kz g pQ dW
    ·have := P4 k cd af g dW; omega
   ·rw [b9 _ _ e] at ae
    by_cases aP : k = i
    ·subst aP;rw [cl] at af;cases af;intro dW;rcases ll g (bE.oV dW bF) with p | p
     ·obtain ⟨fH, hp, pQ⟩ := hold g p;exact h.apart j k q fH ae hp kz g aq pQ
     ·have := P4 j q ae g aq; omega
    ·rw [b9 _ _ aP] at af;exact h.apart j k q cd ae af kz g aq
  ·by_cases e : j = i
   ·subst e;rw [cl] at ae;cases ae;rcases ll g (bE.oV aq bF) with p | p
    ·obtain ⟨fH, hp, pQ⟩ := hold g p;exact h.hot j fH g hp pQ
    ·exact ⟨fun au => by have := bw.lt g au; have := h.below.size; omega, h.up g (by have := h.below.size; omega)⟩
   ·rw [b9 _ _ e] at ae;exact h.hot j q g ae aq
 exact ⟨_, main⟩
theorem ev.grown {i : Nat} {r : bE} {w2 : World} {xs : List Value} (h : ev bw bK R s a w A ad) (ik : Option Nat) (hold : ∀ g, ik = some g → ∃ q, R i = some q ∧ q.own g) (bF : 0 < r.sz) (iT : w.grownBy w2 ik) (n0 : r.v.oneCell' = true)
  (ap : w2.ownsRow 0 r.e r.sz r.v r.n xs) (ll : ∀ g, r.v.ownBlock = some g → ik = some g ∨ w.heap.size ≤ g) (ak : bL (s.free A ad) ad w r.aT xs) (al : ∀ y ∈ r.aT, y.aY = true) {d : Nat} (hd : d < s.n) :
  ∃ dU, ev bw bK (bG R i r) (s.put (some d) (aQ r.v)) (a.put (some d) r.v) w2 dU ad := by
 obtain ⟨dU, main⟩ := h.F9 ik hold bF iT ap ll ak al;exact ⟨dU, main.put (d := some d) (fun d' e => by cases e; exact hd) ⟨rfl, n0⟩⟩
theorem bX.Fp {U : Nat → Prop} {z n : Nat} {xs : List AC} {v : Value} (h : cX U ad w (cM z n xs) v) (ax : 0 < n) : ∃ b c vs, v = .slice (some b) n c ∧ n ≤ c ∧ xs.length = n * z ∧ (∀ (j : Nat) u, vs[j]? = some u → w.cell? (b.add j) = some u) ∧ bL U ad w xs vs := by
 obtain ⟨⟨eY, c, e, al, ak, ec⟩, di⟩ := h;obtain ⟨b, vs, rfl, eu⟩ := ec ax;exact ⟨b, c, vs, e, al, ak, eu.at_, eu.IP fun bS dc => di bS ⟨c, b, e, ax, dc⟩⟩
theorem AM.spec {y : Operand} {z m : Nat} {news : List AC} (h : AM R s.look y z m news) (aN : 0 < z) (aw : ev bw bK R s a w A ad) : (∃ uj yt, a.eval y = .slice uj m yt) ∧ news.length = m * z ∧
  (0 < m → ∃ b c vs, a.eval y = .slice (some b) m c ∧ (∀ (j : Nat) u, vs[j]? = some u → w.cell? (b.add j) = some u) ∧ bL (s.free A ad) ad w news vs) := by
 rcases h with ai | ⟨j, q, lo, u, ae, rfl, ai, ⟨⟨eY, c, rL⟩, hu⟩, ax, rfl⟩
 ·have zl := aw.rel.look ai;obtain ⟨⟨uj, yt, ex, B8, kZ, XJ⟩, XY⟩ := id zl;refine ⟨⟨uj, yt, ex⟩, kZ, fun hm => ?_⟩;obtain ⟨b, c, vs, lP, _, _, gF, pR⟩ := bX.Fp zl hm;exact ⟨b, c, vs, lP, gF, pR⟩
 ·have lP : a.eval y = u := (aw.rel.look ai).1;obtain ⟨xs, aA, ak⟩ := (aw.rows j q ae).cells aN;have aiT : q.aT.length = q.n * q.sz := by rw [ak.1]; exact aA.1
  have wN : lo * q.sz + m * q.sz ≤ q.n * q.sz := by rw [← kf]; exact kg _ ax
  refine ⟨⟨eY, c, by rw [lP, rL, Nat.add_sub_cancel_left]⟩, by rw [dX, h0]; omega, fun hm => ?_⟩;obtain ⟨g, n', c', aF, ao, aP⟩ := hu (by omega);refine ⟨⟨g, lo * q.sz, none⟩, _, (xs.drop (lo * q.sz)).take (m * q.sz), by rw [lP, aP, Nat.add_sub_cancel_left], fun i x aa => ?_, ak.sub _ _⟩
  have hi : i < m * q.sz := by
   have := (bA.1 aa).1;rw [dX] at this;omega
  rw [fw hi, fP] at aa;have := aA.cells (g := g) (by rw [aF]; rfl) _ x aa;rw [Ba] at this ⊢;simpa using this
theorem kO.out {f : Value → aI} {hq : Value → Prop} (h : kO P R s.look o f hq) : ∃ v', hq v' := by
 cases h with
 | copy => exact ⟨_, rfl⟩
 | _ => exact ⟨.bool false, rfl⟩
theorem kO.sound {f : Value → aI} {hq : Value → Prop} {d : Nat} (h : kO P R s.look o f hq) (aw : ev bw bK R s a w A ad) (hd : d < s.n) : ∃ v' w2 dU, (execOp a.eval o).run P w = .ok (.value v') w2 ∧ hq v' ∧ ev bw bK (f v') (s.put (some d) (aQ v')) (a.put (some d) v') w2 dU ad := by
 cases h with
 | uF i r tt bytes m jy j1 news hi aA aB aa ai h1 h2 al =>
  obtain ⟨eE, z, hu, e3, aN, hB, kY, oM, bF⟩ := rj aB;obtain ⟨oH, n1, wX⟩ := aw.rows i r hi;obtain ⟨xs, iV, jK⟩ := oH.row bF;have iW : a.eval jy = r.v := (aw.rel.look aa).1;have NY : r.v.oneCell' = true := (aw.rel.look aa).2;have zl := aw.rel.look ai;rcases vu m with rfl | Ct
  ·obtain ⟨⟨uj, yt, ex, B8, kZ, XJ⟩, XY⟩ := zl;have k0 : news = [] := by simpa using kZ
   subst k0;refine ⟨r.v, w, A, ?_, NY, ?_⟩
   ·rw [show (execOp a.eval o) = (do pure (.value (← Builtin.append_ #[tt, tt] o.type #[a.eval jy, a.eval j1])) : Sem Next) by
     simp only [execOp, aA, resolve, invoke, builtin, List.map_toArray, kG, List.map_nil];rfl]
    simp only [Sem.run_bind];rw [iW, ex]
    obtain ⟨eY, cap, hv, eO⟩ : ∃ eY cap, r.v = .slice eY r.n cap ∧ r.n ≤ cap := by
     rcases iV.2 with ⟨e, cq⟩ | ⟨g, cap, cur, hv, qH, tn, eO, _⟩
     ·exact ⟨none, 0, by rw [e, cq], by omega⟩
     ·exact ⟨_, cap, hv, eO⟩
    rw [hv];cases eY with
    | none =>
     cases uj with
     | none => simp [Builtin.append_, run_underlying hu, sizeOf, typeInfo, e3, Builtin.lenOf, Builtin.firstCells, eO, storeCells]
     | some Vt => simp [Builtin.append_, run_underlying hu, sizeOf, typeInfo, e3, Builtin.lenOf, Builtin.firstCells, eO, storeCells, loadCells, loadCellsFrom]
    | some ahH =>
     cases uj with
     | none => simp [Builtin.append_, run_underlying hu, sizeOf, typeInfo, e3, Builtin.lenOf, Builtin.firstCells, eO, storeCells]
     | some Vt => simp [Builtin.append_, run_underlying hu, sizeOf, typeInfo, e3, Builtin.lenOf, Builtin.firstCells, eO, storeCells, loadCells, loadCellsFrom]
   ·have e : bG R i ⟨r.e, r.sz, r.v, r.n + 0, r.aT ++ []⟩ = R := by
     funext j
     by_cases e : j = i
     ·subst e; rw [cl, hi]; simp
     ·rw [b9 _ _ e]
    show ev bw bK (bG R i ⟨r.e, r.sz, r.v, r.n + 0, r.aT ++ []⟩) _ _ _ _ _;rw [e];exact aw.put (d := some d) (fun d' e => by cases e; exact hd) ⟨rfl, NY⟩
  ·obtain ⟨b, c, vs, lP, B8, kZ, gF, pR⟩ := bX.Fp zl Ct
   have n0 : ∀ u ∈ vs, u.oneCell' = true := fun u e4 => by
    obtain ⟨j, ae⟩ := jR e4;have bb : j < news.length := by rw [pR.1]; exact (bA.1 ae).1
    exact (pR.2 j _ u (bJ bb) ae).cell
   obtain ⟨v', w2, gI, wV, iT, ll, ND⟩ := RR (P := P) w 0 tt o.type r.e eE z r.sz bytes hu e3 aN hB kY oM bF r.v r.n xs iV b m c vs (by rw [← pR.1]; exact kZ) gF n0 h1 h2 (dx _) Ct
   obtain ⟨dU, ct⟩ := aw.grown (i := i) (r := ⟨r.e, r.sz, v', r.n + m, r.aT ++ news⟩) r.v.ownBlock (fun g aq => ⟨r, hi, .inl aq⟩) bF iT ND wV ll (jK.append pR) (fun y ai => by
    rcases jS.1 ai with h | h
    ·exact n1 y h
    ·exact al y h) hd
   refine ⟨v', w2, dU, ?_, ND, ct⟩;have Zn : (Builtin.append_ #[tt, tt] o.type #[a.eval jy, a.eval j1]).run P w = .ok v' w2 := by rw [iW, lP]; exact gI
   simp only [execOp, aA, resolve, invoke, builtin, Sem.run_bind, Sem.run_pure, Result.andThen_ok, List.map_toArray, kG, List.map_nil, Zn]
 | new i t n e sz bytes parts vs zs r hi aA aB dQ aN ab h1 hs h2 ao ap cC =>
  obtain ⟨eE, z, hu, e3, hE, hB, kY, oM, bF⟩ := rj aB;unfold xy at dQ;rw [hu] at dQ;simp only at dQ;unfold zeroOf at dQ;rw [e3] at dQ;simp only [kh] at dQ;rw [hE] at dQ;cases dQ;have hlen : z.cells.toList.length = sz := hs;have r5 : (zeroValue e).run P w = .ok z w := by simp [zeroValue, typeInfo, program, Sem.run_bind, Sem.run, e3, Result.andThen, hE]
  have jK : bL (s.free A ad) ad w (h4 n sz z.cells.toList) ((List.range (n * sz)).map fun j => z.cells[j % z.cells.size]!) := by
   refine ⟨by simp [h4], fun j x v aa hv => ?_⟩;have ae : j < n * sz := by have := (bA.1 hv).1; simpa using this
   simp only [h4, eh, List.getElem?_range ae, ha, hY] at aa hv;subst aa; subst hv;have bb : j % z.cells.size < z.cells.size := Nat.mod_lt _ (by omega);have aP : z.cells.toList.toArray[j % z.cells.toList.length]! = z.cells[j % z.cells.size]! := by simp
   refine ⟨aP.symm, ?_⟩;rw [aP, getElem!_pos z.cells _ bb];exact b6.1 h1 _ (by simp)
  obtain ⟨us, g1, g2⟩ := yD (U := s.free A ad) (ad := ad) (W := w) (ps := xl n sz) (place := fun i => some (i * sz, sz)) (fun i q an => by
    simp only [xl, eh] at an;cases ap : (List.range n)[i]? with
    | none => rw [ap] at an; cases an
    | some m =>
     rw [ap] at an;cases an;have := bA.1 ap;obtain ⟨ao, aD⟩ := this;simp at aD;rw [aD]) (look := s.look) (env := a.eval) parts _ _ zs r jK aN (fun p hp av aJ => aw.rel.look aJ) ab
  have wY : us.length = n * sz := by rw [← g2.1]; exact ap
  have gI : (execOp a.eval o).run P w = .ok (.value (.slice (some ⟨w.heap.size, 0, none⟩) n n)) (w.alloc (.cells us.toArray e)) := by
   have tr : (parts.toArray.map fun (i, x) => (i, a.eval x)).toList = parts.map fun p => (p.1, a.eval p.2) := by simp
   have cr : (Array.range (n * sz)).map (fun j => z.cells[j % z.cells.size]!) = ((List.range (n * sz)).map fun j => z.cells[j % z.cells.size]!).toArray := by simp [← List.toArray_range]
   simp only [execOp, aA, Instr.buildSlice, Sem.run_bind, run_underlying hu, Result.andThen_ok, hK e3, hB];rw [if_neg (by omega)]
   by_cases az : n * sz = 0
   ·rw [if_pos az];have ew : (Array.range (n * sz)).map (fun j => (#[] : Array Value)[j % (#[] : Array Value).size]!) = ((List.range (n * sz)).map fun j => z.cells[j % z.cells.size]!).toArray := by rw [az]; simp
    simp only [Sem.run_bind, Sem.run_pure, Result.andThen_ok, ew, tr, g1, newRow, newObj, Sem.run];rfl
   ·rw [if_neg az];simp only [Sem.run_bind, Sem.run_pure, r5, Result.andThen_ok, cr, tr, g1, newRow, newObj, Sem.run];rfl
  have G3 : (w.alloc (.cells us.toArray e)).heap[w.heap.size]? = some (.cells us.toArray e (0, 0)) := by show (w.heap.push _)[w.heap.size]? = _; simp
  obtain ⟨dU, ct⟩ := aw.grown (i := i) (r := ⟨e, sz, .slice (some ⟨w.heap.size, 0, none⟩) n n, n, r⟩) (xs := us) none (fun g aq => by cases aq) bF (World.grownBy_alloc w _ none) rfl ⟨wY, .inr ⟨w.heap.size, n, us.toArray, rfl, dx _, G3, dE _, ao, by simpa using wY, by simp [← wY]⟩⟩ (fun g aq => by simp [Value.ownBlock] at aq; exact .inr (by omega)) g2 cC hd;exact ⟨_, _, dU, gI, rfl, ct⟩
 | make i t l c e sz bytes x y oN pW vs hi aA aB dQ aa ai GV h1 hs h2 ao =>
  obtain ⟨eE, z, hu, e3, hE, hB, kY, oM, bF⟩ := rj aB;unfold xy at dQ;rw [hu] at dQ;simp only at dQ;unfold zeroOf at dQ;rw [e3] at dQ;simp only [kh] at dQ;rw [hE] at dQ;cases dQ;have hlen : z.cells.toList.length = sz := hs;have YY : z.cells.size = sz := by simpa using hlen
  have CD : a.eval x = .int oN l := (aw.rel.look aa).1;have ZC : a.eval y = .int pW c := (aw.rel.look ai).1;have Gd : (c : Int) ≤ 9223372036854775807 := by have h := ao; simp only [maxLen] at h; omega
  have dc : (eE.bytes : Int) * (c : Int) ≤ 281474976710656 := by
   have h : ((eE.bytes * c : Nat) : Int) ≤ 281474976710656 := by rw [kY]; omega
   rwa [Int.natCast_mul] at h
  have ap := run_make (P := P) w t e eE z hu e3 hE oN pW l c (by omega) (by omega) dc Gd;simp only [kH, hB] at ap
  have gI : (execOp a.eval o).run P w = .ok (.value (.slice (some ⟨w.heap.size, 0, none⟩) l c)) (w.alloc (.cells (madeCells z.cells (c * sz)) e)) := by
   simp only [execOp, aA, CD, ZC, Sem.run_bind, ap, Result.andThen_ok, Sem.run_pure]
  have G3 : (w.alloc (.cells (madeCells z.cells (c * sz)) e)).heap[w.heap.size]? = some (.cells (madeCells z.cells (c * sz)) e (0, 0)) := by show (w.heap.push _)[w.heap.size]? = _; simp
  have hmul : l * sz ≤ c * sz := kg _ GV;have NT : (madeCells z.cells (c * sz)).size = c * sz := size_madeCells _ _
  have zj : ((madeCells z.cells (c * sz)).toList.take (l * sz)).length = l * sz := by
   rw [dX, Array.length_toList, NT]; exact o7 hmul
  have jK : bL (s.free A ad) ad w (h4 l sz z.cells.toList) ((madeCells z.cells (c * sz)).toList.take (l * sz)) := by
   refine ⟨by rw [zj]; simp [h4], fun j x v aa hv => ?_⟩;have ae : j < l * sz := by have := (bA.1 hv).1; rw [zj] at this; exact this
   rw [fw ae] at hv;simp only [h4, eh, List.getElem?_range ae, ha, hY] at aa;subst aa;have bb : j % z.cells.size < z.cells.size := Nat.mod_lt _ (by omega);have aP : z.cells.toList.toArray[j % z.cells.toList.length]! = z.cells[j % z.cells.size]! := by simp
   have nk : v = z.cells[j % z.cells.size]! := by
    have : (madeCells z.cells (c * sz)).toList[j]? = some z.cells[j % z.cells.size]! := by
     simp only [madeCells, Array.toList_map, eh];rw [show (Array.range (c * sz)).toList[j]? = some j by rw [Array.toList_range, List.getElem?_range (sn ae hmul)]];rfl
    rw [this] at hv;exact (ny hv).symm
   refine ⟨by rw [aP]; exact nk, ?_⟩;rw [aP, getElem!_pos z.cells _ bb];exact b6.1 h1 _ (by simp)
  obtain ⟨dU, ct⟩ := aw.grown (i := i) (r := ⟨e, sz, .slice (some ⟨w.heap.size, 0, none⟩) l c, l, h4 l sz z.cells.toList⟩) none (fun g aq => by cases aq) bF (World.grownBy_alloc w _ none) rfl ⟨zj, .inr ⟨w.heap.size, c, _, rfl, dx _, G3, GV, ao, NT, rfl⟩⟩ (fun g aq => by simp [Value.ownBlock] at aq; exact .inr (by omega)) jK (fun y ai => by simp only [h4, gm] at ai; obtain ⟨j, _, rfl⟩ := ai; rfl) hd;exact ⟨_, _, dU, gI, rfl, ct⟩
 | copy i r tt t2 m lo hi x y news c4 bF aA aB aa ai h1 h2 al =>
  obtain ⟨el, eE, hu, e3, hs⟩ := mN aB;have Cx : (P.info? el).map (·.size) = some r.sz := by rw [e3]; simp [hs]
  obtain ⟨oH, n1, wX⟩ := aw.rows i r c4;obtain ⟨xs, iV, jK⟩ := oH.row bF
  have hex : ∀ D S v2 w2, a.eval x = D → a.eval y = S → (Builtin.copy_ #[tt, t2] o.type #[D, S]).run P w = .ok v2 w2 → (execOp a.eval o).run P w = .ok (.value v2) w2 := fun D S v2 w2 aF aP cr => by
   subst aF aP;simp only [execOp, aA, resolve, invoke, builtin, Sem.run_bind, Sem.run_pure, Result.andThen_ok, List.map_toArray, kG, List.map_nil, cr]
  obtain ⟨⟨uj, yt, ex⟩, Nt, lS⟩ := ai.spec bF aw;have oK : r.aT.length = r.n * r.sz := by rw [jK.1]; exact iV.1
  rcases vu (Nat.min m (hi - lo)) with af | af
  ·obtain ⟨eY, FC, jl, eG, Ca⟩ : ∃ eY FC jl, a.eval x = .slice eY FC jl ∧ FC = hi - lo := by
    obtain ⟨eY, c, e, _, _⟩ := (aw.rows i r c4).D8 bF;rcases aa with ⟨aa, rfl, rfl⟩ | aa | ⟨u, aa, ⟨⟨SO, Wb, rL⟩, _⟩⟩
    ·exact ⟨eY, r.n, c, by rw [(aw.rel.look aa).1, e], by omega⟩
    ·have an : a.eval x = hb r.v r.sz lo hi := (aw.rel.look aa).1;rw [e] at an;unfold hb sliced at an;exact ⟨_, _, _, an, rfl⟩
    ·exact ⟨SO, _, Wb, by rw [(aw.rel.look aa).1, rL], rfl⟩
   subst Ca;refine ⟨goInt 0, w, A, hex _ _ _ _ eG ex (afB w tt t2 o.type el _ _ _ _ _ _ r.sz hu Cx af), by rw [af]; rfl, ?_⟩
   have e : bG R i ⟨r.e, r.sz, r.v, r.n, eD r.aT (lo * r.sz) (news.take (Nat.min m (hi - lo) * r.sz))⟩ = R := by
    rw [af];funext j
    by_cases e : j = i
    ·subst e; rw [cl, c4]; simp [eD]
    ·rw [b9 _ _ e]
   rw [e];exact aw.put (d := some d) (fun d' e => by cases e; exact hd) ⟨rfl, rfl⟩
  ·have Cn : Nat.min m (hi - lo) ≤ m := Nat.min_le_left _ _;have aiJ : Nat.min m (hi - lo) ≤ hi - lo := Nat.min_le_right _ _;obtain ⟨b, c, vs, lP, gF, pR⟩ := lS (by omega)
   obtain ⟨g, cap, cur, hv, qH, tn, eO, iS, eu, n3⟩ : ∃ g cap cur, r.v = .slice (some ⟨g, 0, none⟩) r.n cap ∧ 0 ≤ g ∧ w.heap[g]? = some (.cells cur r.e (0, 0)) ∧ r.n ≤ cap ∧ cap ≤ maxLen ∧ cur.size = cap * r.sz ∧ cur.toList.take (r.n * r.sz) = xs := by
    rcases iV.2 with ⟨_, az⟩ | h
    ·omega
    ·exact h
   obtain ⟨jl, eG⟩ : ∃ jl, a.eval x = .slice (some ⟨g, lo * r.sz, none⟩) (hi - lo) jl := by
    rcases aa with ⟨aa, rfl, rfl⟩ | aa | ⟨u, aa, ⟨_, hu⟩⟩
    ·exact ⟨cap, by rw [(aw.rel.look aa).1, hv]; simp⟩
    ·refine ⟨cap - lo, ?_⟩;rw [(aw.rel.look aa).1, hv, RE (by omega) (by omega)];have ku : (⟨g, 0, none⟩ : Addr).add (lo * r.sz) = ⟨g, lo * r.sz, none⟩ := by unfold Addr.add; split <;> simp_all
     rw [ku]
    ·obtain ⟨jn, n', c', aF, _, aP⟩ := hu (by omega);rw [hv] at aF;cases aF;exact ⟨_, by rw [(aw.rel.look aa).1, aP]⟩
   generalize oG : Nat.min m (hi - lo) = k at *;have aiK : k * r.sz ≤ m * r.sz := kg _ Cn;have mv : (vs.take (k * r.sz)).length = k * r.sz := by rw [dX, ← pR.1, Nt]; omega
   have gU : (news.take (k * r.sz)).length = k * r.sz := by rw [dX, Nt]; omega
   have Nj : lo * r.sz + k * r.sz ≤ r.n * r.sz := by rw [← kf]; exact kg _ (by omega)
   have hmul : r.n * r.sz ≤ cap * r.sz := kg _ eO
   have NI : bL (s.free A ad) ad w (news.take (k * r.sz)) (vs.take (k * r.sz)) := by
    have := pR.sub 0 (k * r.sz);simpa using this
   have n0 : ∀ u ∈ vs.take (k * r.sz), u.oneCell' = true := fun u e4 => by
    obtain ⟨j, ae⟩ := jR e4;have bb : j < (news.take (k * r.sz)).length := by rw [gU, ← mv]; exact (bA.1 ae).1
    exact (NI.2 j _ u (bJ bb) ae).cell
   have gI := afC (P := P) w tt t2 o.type el g (lo * r.sz) (hi - lo) jl r.sz b m c cur r.e (vs.take (k * r.sz)) hu Cx tn (by rw [mv, oG]) (fun j v ae => gF j v (by
    have ak : j < k * r.sz := by rw [← mv]; exact (bA.1 ae).1
    rwa [fw ak] at ae)) (by rw [mv]; omega) n0
   rw [oG] at gI
   have u4 : ∀ (u : Array Value), w.grownBy (w.setRow g u) (some g) := fun u => ⟨rfl, rfl, rfl, by simp [World.setRow], fun k _ af => by
    simp only [World.setRow, tU];rw [if_neg (fun e => af (by rw [e]))]⟩
   have ni := setRow_heap w g cur (cur.toList.take (lo * r.sz) ++ vs.take (k * r.sz) ++ cur.toList.drop (lo * r.sz + (vs.take (k * r.sz)).length)).toArray r.e (0, 0) tn;have cC : cur.toList.length = cap * r.sz := by rw [Array.length_toList]; exact eu
   have hlen : (cur.toList.take (lo * r.sz) ++ vs.take (k * r.sz) ++ cur.toList.drop (lo * r.sz + (vs.take (k * r.sz)).length)).length = cap * r.sz := by
    rw [cF, cF, mv, dX, h0, cC]; omega
   have hD := agK (cur := cur.toList) (us := vs.take (k * r.sz)) (off := lo * r.sz) (N := r.n * r.sz) (by rw [mv]; exact Nj) (by rw [cC]; exact hmul);rw [n3] at hD
   obtain ⟨dU, ct⟩ := aw.F9 (i := i) (r := ⟨r.e, r.sz, r.v, r.n, eD r.aT (lo * r.sz) (news.take (k * r.sz))⟩) (w2 := w.setRow g (cur.toList.take (lo * r.sz) ++ vs.take (k * r.sz) ++ cur.toList.drop (lo * r.sz + (vs.take (k * r.sz)).length)).toArray) (xs := xs.take (lo * r.sz) ++ vs.take (k * r.sz) ++ xs.drop (lo * r.sz + (vs.take (k * r.sz)).length)) (some g) (fun jn dW => by cases dW; exact ⟨r, c4, .inl (by rw [hv]; rfl)⟩) bF (u4 _)
    ⟨by rw [← hD, dX, hlen]; exact o7 hmul, .inr ⟨g, cap, _, hv, qH, ni, eO, iS, by simpa using hlen, by simpa using hD⟩⟩ (fun jn dW => by rw [hv] at dW; simp [Value.ownBlock] at dW; exact .inl (by rw [dW])) (jK.eD NI (lo * r.sz) (by rw [gU, oK]; exact Nj)) (fun q an => by
     unfold eD at an;simp only [jS] at an;rcases an with (h1 | h1) | h1
     ·exact n1 q (mI h1)
     ·exact al q (mI h1)
     ·exact n1 q (mJ h1))
   exact ⟨goInt (k : Int), _, dU, hex _ _ _ _ eG lP gI, rfl, ct.put (d := some d) (fun d' e => by cases e; exact hd) ⟨rfl, rfl⟩⟩
inductive sL (P : Program) (R : aI) (look : Operand → Option ah) (o : Oper) : aI → Prop
 | store (i : Nat) (r : bE) (off ty : Nat) (x y : Operand) (z : bx) (eE : TypeInfo) (hi : R i = some r) (ax : 0 < r.n) (aA : o.op = .store ty x y) (aa : look x = some (aQ (jx r.v off))) (ai : look y = some (.w z)) (aB : P.info? ty = some eE) (hs : eE.size = z.cells.length) (ab : off + z.cells.length ≤ r.aT.length) (al : ∀ q ∈ z.cells, q.aY = true) : sL P R look o (bG R i ⟨r.e, r.sz, r.v, r.n, eD r.aT off z.cells⟩)
theorem sL.sound {ay : aI} (h : sL P R s.look o ay) (aw : ev bw bK R s a w A ad) : ∃ w2 dU, (execOp a.eval o).run P w = .ok .skip w2 ∧ ev bw bK ay s a w2 dU ad := by
 cases h with
 | store i r off ty x y z eE hi ax aA aa ai aB hs ab al =>
  obtain ⟨oH, n1, wX⟩ := aw.rows i r hi;have bF := oH.pos ax;obtain ⟨xs, iV, jK⟩ := oH.row bF
  obtain ⟨g, cap, cur, hv, qH, tn, eO, iS, eu, n3⟩ : ∃ g cap cur, r.v = .slice (some ⟨g, 0, none⟩) r.n cap ∧ 0 ≤ g ∧ w.heap[g]? = some (.cells cur r.e (0, 0)) ∧ r.n ≤ cap ∧ cap ≤ maxLen ∧ cur.size = cap * r.sz ∧ cur.toList.take (r.n * r.sz) = xs := by
   rcases iV.2 with ⟨_, az⟩ | h
   ·omega
   ·exact h
  have hp : a.eval x = .pointer (some ⟨g, off, none⟩) := by
   have := (aw.rel.look aa).1;rw [hv] at this;have ku : (⟨g, 0, none⟩ : Addr).add off = ⟨g, off, none⟩ := by unfold Addr.add; split <;> simp_all
   rw [this]; simp only [jx, ku]
  have aN : fR (s.free A ad) ad w z (a.eval y) := aw.rel.look ai;have oL := aN.cells;have vc : (a.eval y).cells.size = z.cells.length := by have := oL.1; simp at this; exact this.symm
  have oK : r.aT.length = r.n * r.sz := by rw [jK.1]; exact iV.1
  have hmul : r.n * r.sz ≤ cap * r.sz := kg _ eO
  have iz : (storeVar ty ⟨g, off, none⟩ (a.eval y)).run P w = .ok () (w.setRow g (cur.toList.take off ++ (a.eval y).cells.toList ++ cur.toList.drop (off + (a.eval y).cells.toList.length)).toArray) := by
   unfold storeVar;have bU : ¬ ((a.eval y).cells.size ≠ eE.size) := by rw [vc, hs]; simp
   simp only [Sem.run_bind, hK aB, Result.andThen_ok, if_neg bU]
   have dz : ∀ v ∈ (a.eval y).cells.toList, v.oneCell' = true := fun v bQ => by
    obtain ⟨j, ae⟩ := jR bQ;have bb : j < z.cells.length := by rw [oL.1]; exact (bA.1 ae).1
    exact (oL.2 j _ v (bJ bb) ae).cell
   have := run_storeCells_at (P := P) g off r.e (a.eval y).cells.toList 0 cur w tn (by simp; omega) dz;simpa using this
  have u4 : ∀ (u : Array Value), w.grownBy (w.setRow g u) (some g) := fun u => ⟨rfl, rfl, rfl, by simp [World.setRow], fun k _ af => by
   simp only [World.setRow, tU];rw [if_neg (fun e => af (by rw [e]))]⟩
  have ni := setRow_heap w g cur (cur.toList.take off ++ (a.eval y).cells.toList ++ cur.toList.drop (off + (a.eval y).cells.toList.length)).toArray r.e (0, 0) tn
  have hlen : (cur.toList.take off ++ (a.eval y).cells.toList ++ cur.toList.drop (off + (a.eval y).cells.toList.length)).length = cap * r.sz := by
   simp [vc]; omega
  have hD : (cur.toList.take off ++ (a.eval y).cells.toList ++ cur.toList.drop (off + (a.eval y).cells.toList.length)).take (r.n * r.sz) = xs.take off ++ (a.eval y).cells.toList ++ xs.drop (off + (a.eval y).cells.toList.length) := by
   have N0 : (a.eval y).cells.toList.length = z.cells.length := by simpa using vc
   rw [← n3];apply List.ext_getElem?;intro j
   by_cases ae : j < r.n * r.sz
   ·rw [fw ae]
    by_cases qR : j < off
    ·rw [im, gl (by simp; omega), fw qR, im, gl (by simp; omega), fw qR, fw ae]
    ·have t1 : (cur.toList.take off).length = off := by simp; omega
     have t2 : ((cur.toList.take (r.n * r.sz)).take off).length = off := by simp; omega
     by_cases CR : j < off + z.cells.length
     ·rw [im, gL (by omega), gl (by omega), im, gL (by omega), gl (by omega), t1, t2]
     ·rw [gL (by simp only [cF, t1]; omega), gL (by simp only [cF, t2]; omega), fP, fP];simp only [cF, t1, t2, N0];rw [fw (by omega)]
   ·rw [l7 (by simp; omega), l7];simp only [cF, dX, h0, N0];have : cur.toList.length = cap * r.sz := by simpa using eu
    omega
  obtain ⟨dU, ct⟩ := aw.F9 (i := i) (r := ⟨r.e, r.sz, r.v, r.n, eD r.aT off z.cells⟩) (w2 := w.setRow g (cur.toList.take off ++ (a.eval y).cells.toList ++ cur.toList.drop (off + (a.eval y).cells.toList.length)).toArray) (xs := xs.take off ++ (a.eval y).cells.toList ++ xs.drop (off + (a.eval y).cells.toList.length)) (some g) (fun jn dW => by cases dW; exact ⟨r, hi, .inl (by rw [hv]; rfl)⟩) bF (u4 _)
   ⟨by simp [vc]; have := iV.1; omega, .inr ⟨g, cap, _, hv, qH, ni, eO, iS, by simpa using hlen, by simpa using hD⟩⟩ (fun jn dW => by rw [hv] at dW; simp [Value.ownBlock] at dW; exact .inl (by rw [dW])) (jK.eD oL off ab) (fun q an => by
    unfold eD at an;simp only [jS] at an;rcases an with (h1 | h1) | h1
    ·exact n1 q (mI h1)
    ·exact al q h1
    ·exact n1 q (mJ h1))
  refine ⟨_, dU, ?_, ct⟩;simp only [execOp, aA, Instr.storeAt, hp, Instr.sureAddr, Sem.run_bind, Sem.run_pure, Result.andThen_ok, iz]
end
end Go.Proofs.YtbcecodakfejaaaGreat
