/-
  Two segments, by their numbers: what they have in common. My own text.
-/
import Derived.Test.YtfcehanpmbeegaaPlaneA
namespace Go.Proofs.Ytfcehanpmbeegaa
set_option linter.unusedVariables false
/-- is a point right in layer 5? -/
def rB5 (x y : Int) : Bool := decide (x ≤ 134217728) && decide (y ≤ 134217728) && decide (-134217728 ≤ x) && decide (-134217728 ≤ y)
theorem rB5_iff {x y : Int} : rB5 x y = true ↔ (-134217728 ≤ x ∧ x ≤ 134217728) ∧ -134217728 ≤ y ∧ y ≤ 134217728 := by
  unfold rB5
  simp only [Bool.and_eq_true, decide_eq_true_eq]
  omega
/-- the first point is no greater than the second. -/
def lx (a1 a2 b1 b2 : Int) : Prop := a1 < b1 ∨ (a1 = b1 ∧ a2 ≤ b2)
instance (a1 a2 b1 b2 : Int) : Decidable (lx a1 a2 b1 b2) := by unfold lx; exact inferInstance
theorem lx.rfl' {a1 a2 : Int} : lx a1 a2 a1 a2 := .inr ⟨rfl, Int.le_refl _⟩
theorem lx.trans {a1 a2 b1 b2 c1 c2 : Int} (h : lx a1 a2 b1 b2) (k : lx b1 b2 c1 c2) : lx a1 a2 c1 c2 := by unfold lx at *; omega
theorem lx.total (a1 a2 b1 b2 : Int) : lx a1 a2 b1 b2 ∨ lx b1 b2 a1 a2 := by unfold lx; omega
theorem lx.anti {a1 a2 b1 b2 : Int} (h : lx a1 a2 b1 b2) (k : lx b1 b2 a1 a2) : a1 = b1 ∧ a2 = b2 := by unfold lx at *; omega
/-- p is on the segment from s to t, s no greater than t. -/
def inBox (p1 p2 a1 a2 b1 b2 : Int) : Prop := imin a1 b1 ≤ p1 ∧ p1 ≤ imax a1 b1 ∧ imin a2 b2 ≤ p2 ∧ p2 ≤ imax a2 b2
theorem box_iff_lx {s1 s2 t1 t2 p1 p2 : Int} (hst : lx s1 s2 t1 t2) (hc : cr s1 s2 t1 t2 p1 p2 = 0) : inBox p1 p2 s1 s2 t1 t2 ↔ lx s1 s2 p1 p2 ∧ lx p1 p2 t1 t2 := by
  unfold cr at hc
  have hc' : (t1 - s1) * (p2 - s2) = (t2 - s2) * (p1 - s1) := by omega
  unfold inBox imin imax lx at *
  by_cases h1 : s1 = t1
  · subst h1
    have e : (t2 - s2) * (p1 - s1) = 0 := by rw [← hc']; simp
    rcases Int.mul_eq_zero.1 e with e | e
    · constructor
      · intro h; split at h <;> (try split at h) <;> (try split at h) <;> (try split at h) <;> omega
      · intro h; split <;> (try split) <;> (try split) <;> (try split) <;> omega
    · constructor
      · intro h; split at h <;> (try split at h) <;> (try split at h) <;> (try split at h) <;> omega
      · intro h; split <;> (try split) <;> (try split) <;> (try split) <;> omega
  · have h2 : s1 < t1 := by omega
    have hd : 0 < t1 - s1 := by omega
    rw [if_neg (show ¬ t1 < s1 by omega), if_pos (show t1 > s1 by omega)]
    -- x from s1 to t1 gives y between
    have key : s1 ≤ p1 → p1 ≤ t1 → (if t2 < s2 then t2 else s2) ≤ p2 ∧ p2 ≤ (if t2 > s2 then t2 else s2) := by
      intro k1 k2
      by_cases g : t2 < s2
      · rw [if_pos g, if_neg (by omega)]
        have a1 : (t2 - s2) * (t1 - s1) ≤ (t2 - s2) * (p1 - s1) := Int.mul_le_mul_of_nonpos_left (by omega) (by omega)
        have a2 : (t2 - s2) * (p1 - s1) ≤ 0 := Int.mul_nonpos_of_nonpos_of_nonneg (by omega) (by omega)
        rw [← hc'] at a1 a2
        rw [Int.mul_comm (t2 - s2)] at a1
        have b1 := Int.le_of_mul_le_mul_left a1 hd
        have b2 : p2 - s2 ≤ 0 := by
          have : (t1 - s1) * (p2 - s2) ≤ (t1 - s1) * 0 := by omega
          exact Int.le_of_mul_le_mul_left this hd
        omega
      · rw [if_neg g]
        have a1 : (t2 - s2) * (p1 - s1) ≤ (t2 - s2) * (t1 - s1) := Int.mul_le_mul_of_nonneg_left (by omega) (by omega)
        have a2 : 0 ≤ (t2 - s2) * (p1 - s1) := Int.mul_nonneg (by omega) (by omega)
        rw [← hc'] at a1 a2
        rw [Int.mul_comm (t2 - s2)] at a1
        have b1 := Int.le_of_mul_le_mul_left a1 hd
        have b2 : 0 ≤ p2 - s2 := by
          have : (t1 - s1) * 0 ≤ (t1 - s1) * (p2 - s2) := by omega
          exact Int.le_of_mul_le_mul_left this hd
        split <;> omega
    constructor
    · rintro ⟨k1, k2, k3, k4⟩
      constructor
      · by_cases g : s1 < p1
        · exact .inl g
        · right
          have : p1 = s1 := by omega
          subst this
          have : (t1 - p1) * (p2 - s2) = 0 := by rw [hc']; simp
          rcases Int.mul_eq_zero.1 this with e | e <;> omega
      · by_cases g : p1 < t1
        · exact .inl g
        · right
          have : p1 = t1 := by omega
          subst this
          rw [Int.mul_comm (t2 - s2)] at hc'
          have := Int.eq_of_mul_eq_mul_left (show p1 - s1 ≠ 0 by omega) hc'
          omega
    · rintro ⟨k1, k2⟩
      have k1' : s1 ≤ p1 := by omega
      have k2' : p1 ≤ t1 := by omega
      exact ⟨k1', k2', (key k1' k2').1, (key k1' k2').2⟩
/-- p is on the segment from s to t. -/
def On (p1 p2 s1 s2 t1 t2 : Int) : Prop := cr s1 s2 t1 t2 p1 p2 = 0 ∧ inBox p1 p2 s1 s2 t1 t2
theorem on_iff {s1 s2 t1 t2 p1 p2 : Int} (hst : lx s1 s2 t1 t2) : On p1 p2 s1 s2 t1 t2 ↔ cr s1 s2 t1 t2 p1 p2 = 0 ∧ lx s1 s2 p1 p2 ∧ lx p1 p2 t1 t2 := by
  unfold On
  constructor
  · rintro ⟨h, k⟩; exact ⟨h, (box_iff_lx hst h).1 k⟩
  · rintro ⟨h, k⟩; exact ⟨h, (box_iff_lx hst h).2 k⟩
theorem cr_left (a1 a2 b1 b2 : Int) : cr a1 a2 b1 b2 a1 a2 = 0 := by unfold cr; grind
theorem cr_right (a1 a2 b1 b2 : Int) : cr a1 a2 b1 b2 b1 b2 = 0 := by unfold cr; grind
theorem on_low {s1 s2 t1 t2 : Int} (hst : lx s1 s2 t1 t2) : On s1 s2 s1 s2 t1 t2 := (on_iff hst).2 ⟨cr_left .., .rfl', hst⟩
theorem on_high {s1 s2 t1 t2 : Int} (hst : lx s1 s2 t1 t2) : On t1 t2 s1 s2 t1 t2 := (on_iff hst).2 ⟨cr_right .., hst, .rfl'⟩
theorem on_point {p1 p2 s1 s2 : Int} (h : On p1 p2 s1 s2 s1 s2) : p1 = s1 ∧ p2 = s2 := by
  obtain ⟨_, h1, h2⟩ := (on_iff lx.rfl').1 h
  have := lx.anti h1 h2; omega
/-- how two directions turn. -/
def par (s1 s2 s3 s4 t1 t2 t3 t4 : Int) : Int := (s3 - s1) * (t4 - t2) - (s4 - s2) * (t3 - t1)
/-- two segments of one direction: with one place in common, a place of one that is in order between the ends of the other is on that, too. -/
theorem on_of {s1 s2 s3 s4 t1 t2 t3 t4 p1 p2 r1 r2 : Int} (hs : lx s1 s2 s3 s4) (ht : lx t1 t2 t3 t4) (hw : par s1 s2 s3 s4 t1 t2 t3 t4 = 0)
    (ps : On p1 p2 s1 s2 s3 s4) (pt : On p1 p2 t1 t2 t3 t4) (rs : On r1 r2 s1 s2 s3 s4) (r0 : lx t1 t2 r1 r2) (r9 : lx r1 r2 t3 t4) : On r1 r2 t1 t2 t3 t4 := by
  by_cases hd : s1 = s3 ∧ s2 = s4
  · obtain ⟨rfl, rfl⟩ := hd
    obtain ⟨rfl, rfl⟩ := on_point ps
    obtain ⟨rfl, rfl⟩ := on_point rs
    exact pt
  · refine (on_iff ht).2 ⟨?_, r0, r9⟩
    have a := ps.1
    have b := pt.1
    have c := rs.1
    unfold cr par at *
    have d1 : (s3 - s1) * ((t3 - t1) * (r2 - t2) - (t4 - t2) * (r1 - t1)) = 0 := by grind
    have d2 : (s4 - s2) * ((t3 - t1) * (r2 - t2) - (t4 - t2) * (r1 - t1)) = 0 := by grind
    rcases Int.mul_eq_zero.1 d1 with e | e
    · rcases Int.mul_eq_zero.1 d2 with f | f
      · omega
      · exact f
    · exact e
/-- what goes evenly, and between what. -/
theorem btw {x y A B D : Int} (hD : 0 < D) (e : D = A - B) : (imin x y * D ≤ y * A - x * B ∧ y * A - x * B ≤ imax x y * D) ↔ (x = y ∨ (B ≤ 0 ∧ 0 ≤ A)) := by
  subst e
  unfold imin imax
  by_cases h : x = y
  · subst h
    have : x * (A - B) = x * A - x * B := Int.mul_sub ..
    simp [this]
  · have pos : ∀ {u v : Int}, 0 < u → (0 ≤ u * v ↔ 0 ≤ v) := by
      intro u v hu
      constructor
      · intro k
        have k' : u * 0 ≤ u * v := by omega
        exact Int.le_of_mul_le_mul_left k' hu
      · intro k; exact Int.mul_nonneg (by omega) k
    by_cases g : x < y
    · rw [if_neg (by omega), if_pos (show y > x from g)]
      have hu : 0 < y - x := by omega
      have e1 : y * A - x * B - x * (A - B) = (y - x) * A := by grind
      have e2 : y * (A - B) - (y * A - x * B) = (y - x) * (-B) := by grind
      have p1 := pos (v := A) hu
      have p2 := pos (v := -B) hu
      omega
    · rw [if_pos (by omega), if_neg (by omega)]
      have hu : 0 < x - y := by omega
      have e1 : x * (A - B) - (y * A - x * B) = (x - y) * A := by grind
      have e2 : y * A - x * B - y * (A - B) = (x - y) * (-B) := by grind
      have p1 := pos (v := A) hu
      have p2 := pos (v := -B) hu
      omega
/-- is n over d between two numbers? -/
def bw (n d a b : Int) : Prop := imin a b * d ≤ n ∧ n ≤ imax a b * d
theorem bw_two {x y u v A B D : Int} (hD : 0 < D) (e : D = A - B) (hne : ¬ (x = y ∧ u = v)) : (bw (y * A - x * B) D x y ∧ bw (v * A - u * B) D u v) ↔ (B ≤ 0 ∧ 0 ≤ A) := by
  unfold bw
  rw [btw hD e, btw hD e]
  omega
theorem bw_comm {n d a b : Int} : bw n d a b ↔ bw n d b a := by
  unfold bw imin imax
  by_cases h : a = b
  · subst h; rfl
  · by_cases g : a < b
    · rw [if_neg (by omega), if_pos (show b > a from g), if_pos g, if_neg (by omega)]
    · rw [if_pos (show b < a by omega), if_neg (by omega), if_neg g, if_pos (by omega)]

/-! what two segments have in common -/
structure Mt where
  k : Int
  n : Int
  d : Int
  m : Int
  e : Int
  p1 : Int
  p2 : Int
  q1 : Int
  q2 : Int
def noM : Mt := ⟨0, 0, 0, 0, 0, 0, 0, 0, 0⟩
def plM (n d m e : Int) : Mt := ⟨1, n, d, m, e, 0, 0, 0, 0⟩
def alM (p1 p2 q1 q2 : Int) : Mt := ⟨2, 0, 0, 0, 0, p1, p2, q1, q2⟩
def nr1 (n d : Int) : Int := if d < 0 then -n else n
def nr2 (d : Int) : Int := if d < 0 then -d else d
theorem nr1_neg {d : Int} (h : d ≠ 0) (n : Int) : nr1 (-n) (-d) = nr1 n d := by unfold nr1; split <;> split <;> omega
theorem nr2_neg (d : Int) : nr2 (-d) = nr2 d := by unfold nr2; split <;> split <;> omega
theorem nr2_pos {d : Int} (h : d ≠ 0) : 0 < nr2 d := by unfold nr2; split <;> omega
/-- the lines' numbers. -/
def nX (a1 a2 b1 b2 c1 c2 d1 d2 : Int) : Int := ((b2 - a2) * a1 + (a1 - b1) * a2) * (c1 - d1) - (a1 - b1) * ((d2 - c2) * c1 + (c1 - d1) * c2)
def nY (a1 a2 b1 b2 c1 c2 d1 d2 : Int) : Int := (b2 - a2) * ((d2 - c2) * c1 + (c1 - d1) * c2) - ((b2 - a2) * a1 + (a1 - b1) * a2) * (d2 - c2)
def wD (a1 a2 b1 b2 c1 c2 d1 d2 : Int) : Int := (b2 - a2) * (c1 - d1) - (a1 - b1) * (d2 - c2)
theorem wD_par (a1 a2 b1 b2 c1 c2 d1 d2 : Int) : wD a1 a2 b1 b2 c1 c2 d1 d2 = par a1 a2 b1 b2 c1 c2 d1 d2 := by unfold wD par; grind
section
variable (a1 a2 b1 b2 c1 c2 d1 d2 : Int)
theorem wD_ab : wD b1 b2 a1 a2 c1 c2 d1 d2 = - wD a1 a2 b1 b2 c1 c2 d1 d2 := by unfold wD; grind
theorem wD_cd : wD a1 a2 b1 b2 d1 d2 c1 c2 = - wD a1 a2 b1 b2 c1 c2 d1 d2 := by unfold wD; grind
theorem wD_sw : wD c1 c2 d1 d2 a1 a2 b1 b2 = - wD a1 a2 b1 b2 c1 c2 d1 d2 := by unfold wD; grind
theorem nX_ab : nX b1 b2 a1 a2 c1 c2 d1 d2 = - nX a1 a2 b1 b2 c1 c2 d1 d2 := by unfold nX; grind
theorem nX_cd : nX a1 a2 b1 b2 d1 d2 c1 c2 = - nX a1 a2 b1 b2 c1 c2 d1 d2 := by unfold nX; grind
theorem nX_sw : nX c1 c2 d1 d2 a1 a2 b1 b2 = - nX a1 a2 b1 b2 c1 c2 d1 d2 := by unfold nX; grind
theorem nY_ab : nY b1 b2 a1 a2 c1 c2 d1 d2 = - nY a1 a2 b1 b2 c1 c2 d1 d2 := by unfold nY; grind
theorem nY_cd : nY a1 a2 b1 b2 d1 d2 c1 c2 = - nY a1 a2 b1 b2 c1 c2 d1 d2 := by unfold nY; grind
theorem nY_sw : nY c1 c2 d1 d2 a1 a2 b1 b2 = - nY a1 a2 b1 b2 c1 c2 d1 d2 := by unfold nY; grind
/-- by the products of the ends. -/
theorem nX_cr : c1 * cr a1 a2 b1 b2 d1 d2 - d1 * cr a1 a2 b1 b2 c1 c2 = nX a1 a2 b1 b2 c1 c2 d1 d2 := by unfold nX cr; grind
theorem nY_cr : c2 * cr a1 a2 b1 b2 d1 d2 - d2 * cr a1 a2 b1 b2 c1 c2 = nY a1 a2 b1 b2 c1 c2 d1 d2 := by unfold nY cr; grind
theorem wD_cr : cr a1 a2 b1 b2 d1 d2 - cr a1 a2 b1 b2 c1 c2 = wD a1 a2 b1 b2 c1 c2 d1 d2 := by unfold wD cr; grind
end
/-- two lines of other directions meet within both segments. -/
def four (a1 a2 b1 b2 c1 c2 d1 d2 x y d : Int) : Prop := bw x d a1 b1 ∧ bw y d a2 b2 ∧ bw x d c1 d1 ∧ bw y d c2 d2
instance (n d a b : Int) : Decidable (bw n d a b) := by unfold bw; exact inferInstance
instance (a1 a2 b1 b2 c1 c2 d1 d2 x y d : Int) : Decidable (four a1 a2 b1 b2 c1 c2 d1 d2 x y d) := by unfold four; exact inferInstance
theorem ite_iff' {α : Type} {p q : Prop} [Decidable p] [Decidable q] {a b : α} (h : p ↔ q) : (if p then a else b) = if q then a else b := by
  by_cases k : p
  · rw [if_pos k, if_pos (h.1 k)]
  · rw [if_neg k, if_neg fun g => k (h.2 g)]
def meetW (a1 a2 b1 b2 c1 c2 d1 d2 x y d : Int) : Mt := if four a1 a2 b1 b2 c1 c2 d1 d2 x y d then plM x d y d else noM
def meetN (a1 a2 b1 b2 c1 c2 d1 d2 : Int) : Mt :=
  meetW a1 a2 b1 b2 c1 c2 d1 d2 (nr1 (nX a1 a2 b1 b2 c1 c2 d1 d2) (wD a1 a2 b1 b2 c1 c2 d1 d2)) (nr1 (nY a1 a2 b1 b2 c1 c2 d1 d2) (wD a1 a2 b1 b2 c1 c2 d1 d2)) (nr2 (wD a1 a2 b1 b2 c1 c2 d1 d2))
theorem meetN_ab {a1 a2 b1 b2 c1 c2 d1 d2 : Int} (h : wD a1 a2 b1 b2 c1 c2 d1 d2 ≠ 0) : meetN b1 b2 a1 a2 c1 c2 d1 d2 = meetN a1 a2 b1 b2 c1 c2 d1 d2 := by
  unfold meetN
  rw [wD_ab, nX_ab, nY_ab, nr1_neg h, nr1_neg h, nr2_neg]
  unfold meetW four
  exact ite_iff' (by rw [bw_comm (a := b1), bw_comm (a := b2)])
theorem meetN_cd {a1 a2 b1 b2 c1 c2 d1 d2 : Int} (h : wD a1 a2 b1 b2 c1 c2 d1 d2 ≠ 0) : meetN a1 a2 b1 b2 d1 d2 c1 c2 = meetN a1 a2 b1 b2 c1 c2 d1 d2 := by
  unfold meetN
  rw [wD_cd, nX_cd, nY_cd, nr1_neg h, nr1_neg h, nr2_neg]
  unfold meetW four
  exact ite_iff' (by rw [bw_comm (a := d1), bw_comm (a := d2)])
theorem meetN_sw {a1 a2 b1 b2 c1 c2 d1 d2 : Int} (h : wD a1 a2 b1 b2 c1 c2 d1 d2 ≠ 0) : meetN c1 c2 d1 d2 a1 a2 b1 b2 = meetN a1 a2 b1 b2 c1 c2 d1 d2 := by
  unfold meetN
  rw [wD_sw, nX_sw, nY_sw, nr1_neg h, nr1_neg h, nr2_neg]
  unfold meetW four
  refine ite_iff' ?_
  constructor
  · rintro ⟨h1, h2, h3, h4⟩; exact ⟨h3, h4, h1, h2⟩
  · rintro ⟨h1, h2, h3, h4⟩; exact ⟨h3, h4, h1, h2⟩
/-- both above 0, or both below. -/
def same (m n : Int) : Prop := (0 < m ∧ 0 < n) ∨ (m < 0 ∧ n < 0)
instance (m n : Int) : Decidable (same m n) := by unfold same; exact inferInstance
theorem wD_ne {a1 a2 b1 b2 c1 c2 d1 d2 : Int} (h : wD a1 a2 b1 b2 c1 c2 d1 d2 ≠ 0) : ¬ (a1 = b1 ∧ a2 = b2) ∧ ¬ (c1 = d1 ∧ c2 = d2) := by
  refine ⟨?_, ?_⟩
  · rintro ⟨rfl, rfl⟩; apply h; unfold wD; simp
  · rintro ⟨rfl, rfl⟩; apply h; unfold wD; simp
/-- the ends of one are not on one side of the other just if the place is between them. -/
theorem side_cd {a1 a2 b1 b2 c1 c2 d1 d2 : Int} (h : wD a1 a2 b1 b2 c1 c2 d1 d2 ≠ 0) :
    (bw (nr1 (nX a1 a2 b1 b2 c1 c2 d1 d2) (wD a1 a2 b1 b2 c1 c2 d1 d2)) (nr2 (wD a1 a2 b1 b2 c1 c2 d1 d2)) c1 d1 ∧ bw (nr1 (nY a1 a2 b1 b2 c1 c2 d1 d2) (wD a1 a2 b1 b2 c1 c2 d1 d2)) (nr2 (wD a1 a2 b1 b2 c1 c2 d1 d2)) c2 d2) ↔ ¬ same (cr a1 a2 b1 b2 c1 c2) (cr a1 a2 b1 b2 d1 d2) := by
  have hne := (wD_ne h).2
  have e1 := nX_cr a1 a2 b1 b2 c1 c2 d1 d2
  have e2 := nY_cr a1 a2 b1 b2 c1 c2 d1 d2
  have e3 := wD_cr a1 a2 b1 b2 c1 c2 d1 d2
  generalize nX a1 a2 b1 b2 c1 c2 d1 d2 = X at *
  generalize nY a1 a2 b1 b2 c1 c2 d1 d2 = Y at *
  generalize wD a1 a2 b1 b2 c1 c2 d1 d2 = w at *
  generalize cr a1 a2 b1 b2 c1 c2 = C at *
  generalize cr a1 a2 b1 b2 d1 d2 = D at *
  unfold nr1 nr2 same
  by_cases g : w < 0
  · rw [if_pos g, if_pos g, if_pos g, bw_comm (a := c1), bw_comm (a := c2)]
    have hh := bw_two (x := d1) (y := c1) (u := d2) (v := c2) (A := -D) (B := -C) (D := -w) (by omega) (by omega) (by omega)
    have f1 : c1 * -D - d1 * -C = -X := by rw [← e1]; simp only [Int.mul_neg]; omega
    have f2 : c2 * -D - d2 * -C = -Y := by rw [← e2]; simp only [Int.mul_neg]; omega
    rw [f1, f2] at hh
    rw [hh]; omega
  · rw [if_neg g, if_neg g, if_neg g, bw_comm (a := c1), bw_comm (a := c2)]
    have hh := bw_two (x := d1) (y := c1) (u := d2) (v := c2) (A := D) (B := C) (D := w) (by omega) (by omega) (by omega)
    rw [e1, e2] at hh
    rw [hh]; omega
theorem side_ab {a1 a2 b1 b2 c1 c2 d1 d2 : Int} (h : wD a1 a2 b1 b2 c1 c2 d1 d2 ≠ 0) :
    (bw (nr1 (nX a1 a2 b1 b2 c1 c2 d1 d2) (wD a1 a2 b1 b2 c1 c2 d1 d2)) (nr2 (wD a1 a2 b1 b2 c1 c2 d1 d2)) a1 b1 ∧ bw (nr1 (nY a1 a2 b1 b2 c1 c2 d1 d2) (wD a1 a2 b1 b2 c1 c2 d1 d2)) (nr2 (wD a1 a2 b1 b2 c1 c2 d1 d2)) a2 b2) ↔ ¬ same (cr c1 c2 d1 d2 a1 a2) (cr c1 c2 d1 d2 b1 b2) := by
  have h' : wD c1 c2 d1 d2 a1 a2 b1 b2 ≠ 0 := by rw [wD_sw]; omega
  have := side_cd h'
  rw [nX_sw, nY_sw, wD_sw, nr1_neg h, nr1_neg h, nr2_neg] at this
  exact this
theorem four_side {a1 a2 b1 b2 c1 c2 d1 d2 : Int} (h : wD a1 a2 b1 b2 c1 c2 d1 d2 ≠ 0) :
    four a1 a2 b1 b2 c1 c2 d1 d2 (nr1 (nX a1 a2 b1 b2 c1 c2 d1 d2) (wD a1 a2 b1 b2 c1 c2 d1 d2)) (nr1 (nY a1 a2 b1 b2 c1 c2 d1 d2) (wD a1 a2 b1 b2 c1 c2 d1 d2)) (nr2 (wD a1 a2 b1 b2 c1 c2 d1 d2)) ↔ ¬ (same (cr a1 a2 b1 b2 c1 c2) (cr a1 a2 b1 b2 d1 d2) ∨ same (cr c1 c2 d1 d2 a1 a2) (cr c1 c2 d1 d2 b1 b2)) := by
  unfold four
  have p := side_cd h
  have q := side_ab h
  constructor
  · rintro ⟨h1, h2, h3, h4⟩ (g | g)
    · exact p.1 ⟨h3, h4⟩ g
    · exact q.1 ⟨h1, h2⟩ g
  · intro g
    obtain ⟨h3, h4⟩ := p.2 fun k => g (.inl k)
    obtain ⟨h1, h2⟩ := q.2 fun k => g (.inr k)
    exact ⟨h1, h2, h3, h4⟩

/-! the lesser, and the greater, of two points -/
def lo1 (a1 a2 b1 b2 : Int) : Int := if lx a1 a2 b1 b2 then a1 else b1
def lo2 (a1 a2 b1 b2 : Int) : Int := if lx a1 a2 b1 b2 then a2 else b2
def hi1 (a1 a2 b1 b2 : Int) : Int := if lx a1 a2 b1 b2 then b1 else a1
def hi2 (a1 a2 b1 b2 : Int) : Int := if lx a1 a2 b1 b2 then b2 else a2
theorem lh_or (a1 a2 b1 b2 : Int) : (lo1 a1 a2 b1 b2 = a1 ∧ lo2 a1 a2 b1 b2 = a2 ∧ hi1 a1 a2 b1 b2 = b1 ∧ hi2 a1 a2 b1 b2 = b2 ∧ lx a1 a2 b1 b2) ∨ (lo1 a1 a2 b1 b2 = b1 ∧ lo2 a1 a2 b1 b2 = b2 ∧ hi1 a1 a2 b1 b2 = a1 ∧ hi2 a1 a2 b1 b2 = a2 ∧ lx b1 b2 a1 a2) := by
  unfold lo1 lo2 hi1 hi2
  by_cases h : lx a1 a2 b1 b2
  · simp [h]
  · simp [h, (lx.total a1 a2 b1 b2).resolve_left h]
theorem lh_lx (a1 a2 b1 b2 : Int) : lx (lo1 a1 a2 b1 b2) (lo2 a1 a2 b1 b2) (hi1 a1 a2 b1 b2) (hi2 a1 a2 b1 b2) := by
  rcases lh_or a1 a2 b1 b2 with ⟨h1, h2, h3, h4, h⟩ | ⟨h1, h2, h3, h4, h⟩ <;> rw [h1, h2, h3, h4] <;> exact h
theorem lh_comm (a1 a2 b1 b2 : Int) : lo1 b1 b2 a1 a2 = lo1 a1 a2 b1 b2 ∧ lo2 b1 b2 a1 a2 = lo2 a1 a2 b1 b2 ∧ hi1 b1 b2 a1 a2 = hi1 a1 a2 b1 b2 ∧ hi2 b1 b2 a1 a2 = hi2 a1 a2 b1 b2 := by
  rcases lh_or a1 a2 b1 b2 with ⟨h1, h2, h3, h4, h⟩ | ⟨h1, h2, h3, h4, h⟩ <;> rcases lh_or b1 b2 a1 a2 with ⟨k1, k2, k3, k4, k⟩ | ⟨k1, k2, k3, k4, k⟩ <;> rw [h1, h2, h3, h4, k1, k2, k3, k4] <;> (try have := lx.anti h k) <;> simp_all
theorem on_comm {p1 p2 a1 a2 b1 b2 : Int} : On p1 p2 b1 b2 a1 a2 ↔ On p1 p2 a1 a2 b1 b2 := by
  unfold On inBox
  have e : cr b1 b2 a1 a2 p1 p2 = - cr a1 a2 b1 b2 p1 p2 := by unfold cr; grind
  have m : ∀ x y : Int, imin x y = imin y x := fun x y => by unfold imin; split <;> split <;> omega
  have n : ∀ x y : Int, imax x y = imax y x := fun x y => by unfold imax; split <;> split <;> omega
  rw [e, m a1, m a2, n a1, n a2]
  constructor <;> rintro ⟨h, k⟩ <;> exact ⟨by omega, k⟩
instance (p1 p2 a1 a2 b1 b2 : Int) : Decidable (inBox p1 p2 a1 a2 b1 b2) := by unfold inBox; exact inferInstance
instance (p1 p2 a1 a2 b1 b2 : Int) : Decidable (On p1 p2 a1 a2 b1 b2) := by unfold On; exact inferInstance
theorem on_sort {p1 p2 a1 a2 b1 b2 : Int} : On p1 p2 (lo1 a1 a2 b1 b2) (lo2 a1 a2 b1 b2) (hi1 a1 a2 b1 b2) (hi2 a1 a2 b1 b2) ↔ On p1 p2 a1 a2 b1 b2 := by
  rcases lh_or a1 a2 b1 b2 with ⟨h1, h2, h3, h4, h⟩ | ⟨h1, h2, h3, h4, h⟩ <;> rw [h1, h2, h3, h4]
  exact on_comm
theorem par_sw {s1 s2 s3 s4 t1 t2 t3 t4 : Int} : par t1 t2 t3 t4 s1 s2 s3 s4 = - par s1 s2 s3 s4 t1 t2 t3 t4 := by unfold par; grind
/-- two segments in one line: all that they have in common, if they have anything. -/
theorem line_on {s1 s2 s3 s4 t1 t2 t3 t4 p1 p2 : Int} (hs : lx s1 s2 s3 s4) (ht : lx t1 t2 t3 t4) (hw : par s1 s2 s3 s4 t1 t2 t3 t4 = 0) (ps : On p1 p2 s1 s2 s3 s4) (pt : On p1 p2 t1 t2 t3 t4) :
    On (hi1 s1 s2 t1 t2) (hi2 s1 s2 t1 t2) s1 s2 s3 s4 ∧ On (hi1 s1 s2 t1 t2) (hi2 s1 s2 t1 t2) t1 t2 t3 t4 ∧ On (lo1 s3 s4 t3 t4) (lo2 s3 s4 t3 t4) s1 s2 s3 s4 ∧ On (lo1 s3 s4 t3 t4) (lo2 s3 s4 t3 t4) t1 t2 t3 t4
    ∧ lx (hi1 s1 s2 t1 t2) (hi2 s1 s2 t1 t2) p1 p2 ∧ lx p1 p2 (lo1 s3 s4 t3 t4) (lo2 s3 s4 t3 t4) := by
  obtain ⟨_, s0, s9⟩ := (on_iff hs).1 ps
  obtain ⟨_, t0, t9⟩ := (on_iff ht).1 pt
  have hw' : par t1 t2 t3 t4 s1 s2 s3 s4 = 0 := by rw [par_sw]; omega
  rcases lh_or s1 s2 t1 t2 with ⟨_, _, h3, h4, h⟩ | ⟨_, _, h3, h4, h⟩ <;> rcases lh_or s3 s4 t3 t4 with ⟨k1, k2, _, _, k⟩ | ⟨k1, k2, _, _, k⟩ <;> rw [h3, h4, k1, k2]
  · exact ⟨on_of ht hs hw' pt ps (on_low ht) h (t0.trans s9), on_low ht, on_high hs, on_of hs ht hw ps pt (on_high hs) (t0.trans s9) k, t0, s9⟩
  · exact ⟨on_of ht hs hw' pt ps (on_low ht) h (t0.trans s9), on_low ht, on_of ht hs hw' pt ps (on_high ht) (s0.trans t9) k, on_high ht, t0, t9⟩
  · exact ⟨on_low hs, on_of hs ht hw ps pt (on_low hs) h (s0.trans t9), on_high hs, on_of hs ht hw ps pt (on_high hs) (t0.trans s9) k, s0, s9⟩
  · exact ⟨on_low hs, on_of hs ht hw ps pt (on_low hs) h (s0.trans t9), on_of ht hs hw' pt ps (on_high ht) (s0.trans t9) k, on_high ht, s0, t9⟩
def inlP (f1 f2 g1 g2 : Int) : Mt := if f1 = g1 ∧ f2 = g2 then plM f1 1 f2 1 else alM f1 f2 g1 g2
def inl (s1 s2 s3 s4 t1 t2 t3 t4 : Int) : Mt :=
  if On (hi1 s1 s2 t1 t2) (hi2 s1 s2 t1 t2) s1 s2 s3 s4 ∧ On (hi1 s1 s2 t1 t2) (hi2 s1 s2 t1 t2) t1 t2 t3 t4 then inlP (hi1 s1 s2 t1 t2) (hi2 s1 s2 t1 t2) (lo1 s3 s4 t3 t4) (lo2 s3 s4 t3 t4) else noM
theorem inl_sw (s1 s2 s3 s4 t1 t2 t3 t4 : Int) : inl t1 t2 t3 t4 s1 s2 s3 s4 = inl s1 s2 s3 s4 t1 t2 t3 t4 := by
  unfold inl
  obtain ⟨_, _, h1, h2⟩ := lh_comm s1 s2 t1 t2
  obtain ⟨h3, h4, _, _⟩ := lh_comm s3 s4 t3 t4
  rw [h1, h2, h3, h4]
  exact ite_iff' and_comm
/-- in one line, with a place in common. -/
theorem inl_some {s1 s2 s3 s4 t1 t2 t3 t4 p1 p2 : Int} (hs : lx s1 s2 s3 s4) (ht : lx t1 t2 t3 t4) (hw : par s1 s2 s3 s4 t1 t2 t3 t4 = 0) (ps : On p1 p2 s1 s2 s3 s4) (pt : On p1 p2 t1 t2 t3 t4) :
    inl s1 s2 s3 s4 t1 t2 t3 t4 = inlP (hi1 s1 s2 t1 t2) (hi2 s1 s2 t1 t2) (lo1 s3 s4 t3 t4) (lo2 s3 s4 t3 t4) := by
  obtain ⟨h1, h2, _⟩ := line_on hs ht hw ps pt
  unfold inl
  rw [if_pos ⟨h1, h2⟩]
def ok5 (x y : Int) : Bool := decide (x ≤ 134217728) && decide (y ≤ 134217728) && decide (-134217728 ≤ x) && decide (-134217728 ≤ y)
/-- the sorted segments in one line. -/
def inlS (a1 a2 b1 b2 c1 c2 d1 d2 : Int) : Mt := inl (lo1 a1 a2 b1 b2) (lo2 a1 a2 b1 b2) (hi1 a1 a2 b1 b2) (hi2 a1 a2 b1 b2) (lo1 c1 c2 d1 d2) (lo2 c1 c2 d1 d2) (hi1 c1 c2 d1 d2) (hi2 c1 c2 d1 d2)
/-- what two segments of right points have in common. -/
def meetV (a1 a2 b1 b2 c1 c2 d1 d2 : Int) : Mt := if wD a1 a2 b1 b2 c1 c2 d1 d2 = 0 then inlS a1 a2 b1 b2 c1 c2 d1 d2 else meetN a1 a2 b1 b2 c1 c2 d1 d2
theorem meetV_ab (a1 a2 b1 b2 c1 c2 d1 d2 : Int) : meetV b1 b2 a1 a2 c1 c2 d1 d2 = meetV a1 a2 b1 b2 c1 c2 d1 d2 := by
  unfold meetV
  obtain ⟨h1, h2, h3, h4⟩ := lh_comm a1 a2 b1 b2
  by_cases h : wD a1 a2 b1 b2 c1 c2 d1 d2 = 0
  · rw [if_pos (by rw [wD_ab]; omega), if_pos h]; unfold inlS; rw [h1, h2, h3, h4]
  · rw [if_neg (by rw [wD_ab]; omega), if_neg h, meetN_ab h]
theorem meetV_cd (a1 a2 b1 b2 c1 c2 d1 d2 : Int) : meetV a1 a2 b1 b2 d1 d2 c1 c2 = meetV a1 a2 b1 b2 c1 c2 d1 d2 := by
  unfold meetV
  obtain ⟨h1, h2, h3, h4⟩ := lh_comm c1 c2 d1 d2
  by_cases h : wD a1 a2 b1 b2 c1 c2 d1 d2 = 0
  · rw [if_pos (by rw [wD_cd]; omega), if_pos h]; unfold inlS; rw [h1, h2, h3, h4]
  · rw [if_neg (by rw [wD_cd]; omega), if_neg h, meetN_cd h]
theorem meetV_sw (a1 a2 b1 b2 c1 c2 d1 d2 : Int) : meetV c1 c2 d1 d2 a1 a2 b1 b2 = meetV a1 a2 b1 b2 c1 c2 d1 d2 := by
  unfold meetV
  by_cases h : wD a1 a2 b1 b2 c1 c2 d1 d2 = 0
  · rw [if_pos (by rw [wD_sw]; omega), if_pos h]; unfold inlS; rw [inl_sw]
  · rw [if_neg (by rw [wD_sw]; omega), if_neg h, meetN_sw h]
theorem meetV_sort (a1 a2 b1 b2 c1 c2 d1 d2 : Int) : meetV (lo1 a1 a2 b1 b2) (lo2 a1 a2 b1 b2) (hi1 a1 a2 b1 b2) (hi2 a1 a2 b1 b2) (lo1 c1 c2 d1 d2) (lo2 c1 c2 d1 d2) (hi1 c1 c2 d1 d2) (hi2 c1 c2 d1 d2) = meetV a1 a2 b1 b2 c1 c2 d1 d2 := by
  rcases lh_or a1 a2 b1 b2 with ⟨h1, h2, h3, h4, _⟩ | ⟨h1, h2, h3, h4, _⟩ <;> rcases lh_or c1 c2 d1 d2 with ⟨k1, k2, k3, k4, _⟩ | ⟨k1, k2, k3, k4, _⟩ <;> rw [h1, h2, h3, h4, k1, k2, k3, k4]
  · rw [meetV_cd]
  · rw [meetV_ab]
  · rw [meetV_ab, meetV_cd]
/-- by the ends' sides: s, t in order. -/
def meetS (s1 s2 s3 s4 t1 t2 t3 t4 A B C D : Int) : Mt :=
  if A = B then inl s1 s2 s3 s4 t1 t2 t3 t4
  else if same A B ∨ same C D then noM
  else plM (nr1 (t3 * A - t1 * B) (A - B)) (nr2 (A - B)) (nr1 (t4 * A - t2 * B) (A - B)) (nr2 (A - B))
theorem lx_sorted {s1 s2 s3 s4 : Int} (h : lx s1 s2 s3 s4) : lo1 s1 s2 s3 s4 = s1 ∧ lo2 s1 s2 s3 s4 = s2 ∧ hi1 s1 s2 s3 s4 = s3 ∧ hi2 s1 s2 s3 s4 = s4 := by
  unfold lo1 lo2 hi1 hi2; simp [h]
theorem meetS_eq {s1 s2 s3 s4 t1 t2 t3 t4 : Int} (hs : lx s1 s2 s3 s4) (ht : lx t1 t2 t3 t4) :
    meetS s1 s2 s3 s4 t1 t2 t3 t4 (cr s1 s2 s3 s4 t1 t2) (cr s1 s2 s3 s4 t3 t4) (cr t1 t2 t3 t4 s1 s2) (cr t1 t2 t3 t4 s3 s4) = meetV s1 s2 s3 s4 t1 t2 t3 t4 := by
  have e1 := nX_cr s1 s2 s3 s4 t1 t2 t3 t4
  have e2 := nY_cr s1 s2 s3 s4 t1 t2 t3 t4
  have e3 := wD_cr s1 s2 s3 s4 t1 t2 t3 t4
  unfold meetS meetV
  by_cases h : wD s1 s2 s3 s4 t1 t2 t3 t4 = 0
  · rw [if_pos (by omega), if_pos h]
    unfold inlS
    obtain ⟨h1, h2, h3, h4⟩ := lx_sorted hs
    obtain ⟨k1, k2, k3, k4⟩ := lx_sorted ht
    rw [h1, h2, h3, h4, k1, k2, k3, k4]
  · rw [if_neg (by omega), if_neg h]
    have f := four_side h
    have g1 : t3 * cr s1 s2 s3 s4 t1 t2 - t1 * cr s1 s2 s3 s4 t3 t4 = - nX s1 s2 s3 s4 t1 t2 t3 t4 := by omega
    have g2 : t4 * cr s1 s2 s3 s4 t1 t2 - t2 * cr s1 s2 s3 s4 t3 t4 = - nY s1 s2 s3 s4 t1 t2 t3 t4 := by omega
    have g3 : cr s1 s2 s3 s4 t1 t2 - cr s1 s2 s3 s4 t3 t4 = - wD s1 s2 s3 s4 t1 t2 t3 t4 := by omega
    rw [g1, g2, g3, nr1_neg h, nr1_neg h, nr2_neg]
    unfold meetN meetW
    by_cases q : same (cr s1 s2 s3 s4 t1 t2) (cr s1 s2 s3 s4 t3 t4) ∨ same (cr t1 t2 t3 t4 s1 s2) (cr t1 t2 t3 t4 s3 s4)
    · rw [if_pos q, if_neg fun k => f.1 k q]
    · rw [if_neg q, if_pos (f.2 q)]
/-! the least, and the greatest, of a row -/
def lt' (a b : Int × Int) : Prop := a.1 < b.1 ∨ (a.1 = b.1 ∧ a.2 < b.2)
instance (a b : Int × Int) : Decidable (lt' a b) := by unfold lt'; exact inferInstance
def lea (a b : Int × Int) : Int × Int := if lt' a b then a else b
def mos (a b : Int × Int) : Int × Int := if lea a b = a then b else a
theorem lea_or (a b : Int × Int) : (lea a b = a ∨ lea a b = b) ∧ lx (lea a b).1 (lea a b).2 a.1 a.2 ∧ lx (lea a b).1 (lea a b).2 b.1 b.2 := by
  unfold lea lx
  by_cases h : lt' a b
  · rw [if_pos h]; unfold lt' at h; exact ⟨.inl rfl, by omega, by omega⟩
  · rw [if_neg h]; unfold lt' at h; exact ⟨.inr rfl, by omega, by omega⟩
theorem mos_or (a b : Int × Int) : (mos a b = a ∨ mos a b = b) ∧ lx a.1 a.2 (mos a b).1 (mos a b).2 ∧ lx b.1 b.2 (mos a b).1 (mos a b).2 := by
  unfold mos lea lx
  by_cases h : lt' a b
  · rw [if_pos h, if_pos rfl]; unfold lt' at h; exact ⟨.inr rfl, by omega, by omega⟩
  · rw [if_neg h]
    by_cases e : b = a
    · rw [if_pos e]; subst e; exact ⟨.inr rfl, by omega, by omega⟩
    · rw [if_neg e]
      have : ¬ (b.1 = a.1 ∧ b.2 = a.2) := fun k => e (Prod.ext k.1 k.2)
      unfold lt' at h
      exact ⟨.inl rfl, by omega, by omega⟩
theorem fold_lea : ∀ (l : List (Int × Int)) (x : Int × Int), l.foldl lea x ∈ x :: l ∧ ∀ p, p ∈ x :: l → lx (l.foldl lea x).1 (l.foldl lea x).2 p.1 p.2
  | [], x => ⟨by simp, fun p hp => by simp at hp; subst hp; exact .rfl'⟩
  | y :: l, x => by
    obtain ⟨h1, h2⟩ := fold_lea l (lea x y)
    obtain ⟨k0, k1, k2⟩ := lea_or x y
    refine ⟨?_, fun p hp => ?_⟩
    · simp only [List.foldl_cons]
      rcases List.mem_cons.1 h1 with e | e
      · rw [e]; rcases k0 with k0 | k0 <;> rw [k0] <;> simp
      · simp [e]
    · simp only [List.foldl_cons]
      have h3 := h2 (lea x y) (by simp)
      simp only [List.mem_cons] at hp
      rcases hp with rfl | rfl | hp
      · exact h3.trans k1
      · exact h3.trans k2
      · exact h2 p (by simp [hp])
theorem fold_mos : ∀ (l : List (Int × Int)) (x : Int × Int), l.foldl mos x ∈ x :: l ∧ ∀ p, p ∈ x :: l → lx p.1 p.2 (l.foldl mos x).1 (l.foldl mos x).2
  | [], x => ⟨by simp, fun p hp => by simp at hp; subst hp; exact .rfl'⟩
  | y :: l, x => by
    obtain ⟨h1, h2⟩ := fold_mos l (mos x y)
    obtain ⟨k0, k1, k2⟩ := mos_or x y
    refine ⟨?_, fun p hp => ?_⟩
    · simp only [List.foldl_cons]
      rcases List.mem_cons.1 h1 with e | e
      · rw [e]; rcases k0 with k0 | k0 <;> rw [k0] <;> simp
      · simp [e]
    · simp only [List.foldl_cons]
      have h3 := h2 (mos x y) (by simp)
      simp only [List.mem_cons] at hp
      rcases hp with rfl | rfl | hp
      · exact k1.trans h3
      · exact k2.trans h3
      · exact h2 p (by simp [hp])
/-- the ends that are on both segments. -/
def ends (a1 a2 b1 b2 c1 c2 d1 d2 : Int) : List (Int × Int) := [(a1, a2), (b1, b2), (c1, c2), (d1, d2)].filter fun p => decide (On p.1 p.2 a1 a2 b1 b2) && decide (On p.1 p.2 c1 c2 d1 d2)
def rowM : List (Int × Int) → Mt
  | [] => noM
  | x :: l => inlP (l.foldl lea x).1 (l.foldl lea x).2 (l.foldl mos x).1 (l.foldl mos x).2
theorem rowM_eq {a1 a2 b1 b2 c1 c2 d1 d2 : Int} (h : wD a1 a2 b1 b2 c1 c2 d1 d2 = 0) : rowM (ends a1 a2 b1 b2 c1 c2 d1 d2) = meetV a1 a2 b1 b2 c1 c2 d1 d2 := by
  have hV := meetV_sort a1 a2 b1 b2 c1 c2 d1 d2
  have hs := lh_lx a1 a2 b1 b2
  have ht := lh_lx c1 c2 d1 d2
  have hw : par (lo1 a1 a2 b1 b2) (lo2 a1 a2 b1 b2) (hi1 a1 a2 b1 b2) (hi2 a1 a2 b1 b2) (lo1 c1 c2 d1 d2) (lo2 c1 c2 d1 d2) (hi1 c1 c2 d1 d2) (hi2 c1 c2 d1 d2) = 0 := by
    have h1 := wD_ab a1 a2 b1 b2 c1 c2 d1 d2
    have h2 := wD_cd a1 a2 b1 b2 c1 c2 d1 d2
    have h3 := wD_cd b1 b2 a1 a2 c1 c2 d1 d2
    rw [← wD_par]
    rcases lh_or a1 a2 b1 b2 with ⟨h1, h2, h3, h4, _⟩ | ⟨h1, h2, h3, h4, _⟩ <;> rcases lh_or c1 c2 d1 d2 with ⟨k1, k2, k3, k4, _⟩ | ⟨k1, k2, k3, k4, _⟩ <;> rw [h1, h2, h3, h4, k1, k2, k3, k4] <;> omega
  have so : ∀ p1 p2, On p1 p2 (lo1 a1 a2 b1 b2) (lo2 a1 a2 b1 b2) (hi1 a1 a2 b1 b2) (hi2 a1 a2 b1 b2) ↔ On p1 p2 a1 a2 b1 b2 := fun _ _ => on_sort
  have to : ∀ p1 p2, On p1 p2 (lo1 c1 c2 d1 d2) (lo2 c1 c2 d1 d2) (hi1 c1 c2 d1 d2) (hi2 c1 c2 d1 d2) ↔ On p1 p2 c1 c2 d1 d2 := fun _ _ => on_sort
  have hL : (lo1 a1 a2 b1 b2, lo2 a1 a2 b1 b2) = (a1, a2) ∧ (hi1 a1 a2 b1 b2, hi2 a1 a2 b1 b2) = (b1, b2) ∨ (lo1 a1 a2 b1 b2, lo2 a1 a2 b1 b2) = (b1, b2) ∧ (hi1 a1 a2 b1 b2, hi2 a1 a2 b1 b2) = (a1, a2) := by
    rcases lh_or a1 a2 b1 b2 with ⟨h1, h2, h3, h4, _⟩ | ⟨h1, h2, h3, h4, _⟩ <;> rw [h1, h2, h3, h4] <;> simp
  have hR : (lo1 c1 c2 d1 d2, lo2 c1 c2 d1 d2) = (c1, c2) ∧ (hi1 c1 c2 d1 d2, hi2 c1 c2 d1 d2) = (d1, d2) ∨ (lo1 c1 c2 d1 d2, lo2 c1 c2 d1 d2) = (d1, d2) ∧ (hi1 c1 c2 d1 d2, hi2 c1 c2 d1 d2) = (c1, c2) := by
    rcases lh_or c1 c2 d1 d2 with ⟨h1, h2, h3, h4, _⟩ | ⟨h1, h2, h3, h4, _⟩ <;> rw [h1, h2, h3, h4] <;> simp
  rw [← hV]
  unfold meetV
  rw [if_pos (by rw [wD_par]; exact hw)]
  unfold inlS
  obtain ⟨h1, h2, h3, h4⟩ := lx_sorted hs
  obtain ⟨k1, k2, k3, k4⟩ := lx_sorted ht
  rw [h1, h2, h3, h4, k1, k2, k3, k4]
  clear h1 h2 h3 h4 k1 k2 k3 k4 hV
  have mem : ∀ p, p ∈ ends a1 a2 b1 b2 c1 c2 d1 d2 ↔ (p = (a1, a2) ∨ p = (b1, b2) ∨ p = (c1, c2) ∨ p = (d1, d2)) ∧ On p.1 p.2 a1 a2 b1 b2 ∧ On p.1 p.2 c1 c2 d1 d2 := by
    intro p; unfold ends; simp only [List.mem_filter, Bool.and_eq_true, decide_eq_true_eq, List.mem_cons, List.not_mem_nil, or_false]
  generalize ends a1 a2 b1 b2 c1 c2 d1 d2 = L at *
  generalize lo1 a1 a2 b1 b2 = s1 at *
  generalize lo2 a1 a2 b1 b2 = s2 at *
  generalize hi1 a1 a2 b1 b2 = s3 at *
  generalize hi2 a1 a2 b1 b2 = s4 at *
  generalize lo1 c1 c2 d1 d2 = t1 at *
  generalize lo2 c1 c2 d1 d2 = t2 at *
  generalize hi1 c1 c2 d1 d2 = t3 at *
  generalize hi2 c1 c2 d1 d2 = t4 at *
  have ef : ((hi1 s1 s2 t1 t2, hi2 s1 s2 t1 t2) = (s1, s2) ∨ (hi1 s1 s2 t1 t2, hi2 s1 s2 t1 t2) = (t1, t2)) := by rcases lh_or s1 s2 t1 t2 with ⟨_, _, h3, h4, _⟩ | ⟨_, _, h3, h4, _⟩ <;> rw [h3, h4] <;> simp
  have eg : ((lo1 s3 s4 t3 t4, lo2 s3 s4 t3 t4) = (s3, s4) ∨ (lo1 s3 s4 t3 t4, lo2 s3 s4 t3 t4) = (t3, t4)) := by rcases lh_or s3 s4 t3 t4 with ⟨h3, h4, _⟩ | ⟨h3, h4, _⟩ <;> rw [h3, h4] <;> simp
  have key := fun p1 p2 => @line_on s1 s2 s3 s4 t1 t2 t3 t4 p1 p2 hs ht hw
  unfold inl
  generalize hi1 s1 s2 t1 t2 = f1 at *
  generalize hi2 s1 s2 t1 t2 = f2 at *
  generalize lo1 s3 s4 t3 t4 = g1 at *
  generalize lo2 s3 s4 t3 t4 = g2 at *
  have ef' : (f1, f2) = (a1, a2) ∨ (f1, f2) = (b1, b2) ∨ (f1, f2) = (c1, c2) ∨ (f1, f2) = (d1, d2) := by
    rcases ef with e | e <;> rw [e]
    · rcases hL with ⟨e, _⟩ | ⟨e, _⟩ <;> rw [e] <;> simp
    · rcases hR with ⟨e, _⟩ | ⟨e, _⟩ <;> rw [e] <;> simp
  have eg' : (g1, g2) = (a1, a2) ∨ (g1, g2) = (b1, b2) ∨ (g1, g2) = (c1, c2) ∨ (g1, g2) = (d1, d2) := by
    rcases eg with e | e <;> rw [e]
    · rcases hL with ⟨_, e⟩ | ⟨_, e⟩ <;> rw [e] <;> simp
    · rcases hR with ⟨_, e⟩ | ⟨_, e⟩ <;> rw [e] <;> simp
  cases L with
  | nil =>
    rw [if_neg]
    · rfl
    · rintro ⟨h1, h2⟩
      have := (mem (f1, f2)).2 ⟨ef', (so _ _).1 h1, (to _ _).1 h2⟩
      simp at this
  | cons x l =>
    obtain ⟨_, px, qx⟩ := (mem x).1 (by simp)
    obtain ⟨u1, u2, u3, u4, _, _⟩ := key x.1 x.2 ((so _ _).2 px) ((to _ _).2 qx)
    rw [if_pos ⟨u1, u2⟩]
    obtain ⟨m1, m2⟩ := fold_lea l x
    obtain ⟨n1, n2⟩ := fold_mos l x
    have fm := (mem (f1, f2)).2 ⟨ef', (so _ _).1 u1, (to _ _).1 u2⟩
    have gm := (mem (g1, g2)).2 ⟨eg', (so _ _).1 u3, (to _ _).1 u4⟩
    have v1 := m2 _ fm
    have v2 := n2 _ gm
    obtain ⟨_, pm, qm⟩ := (mem _).1 m1
    obtain ⟨_, pn, qn⟩ := (mem _).1 n1
    obtain ⟨_, _, _, _, w1, _⟩ := key _ _ ((so _ _).2 pm) ((to _ _).2 qm)
    obtain ⟨_, _, _, _, _, w2⟩ := key _ _ ((so _ _).2 pn) ((to _ _).2 qn)
    obtain ⟨z1, z2⟩ := lx.anti v1 w1
    obtain ⟨z3, z4⟩ := lx.anti v2 w2
    simp only [rowM]
    rw [z1, z2, ← z3, ← z4]
end Go.Proofs.Ytfcehanpmbeegaa
