/-
  My own texts, without what this claim does not need. My own text.
-/
import Derived.Laws.AppendOwn
import Derived.Test.YtbcecodakfejaaaGreatSKeepsK3
set_option maxRecDepth 100000
set_option maxHeartbeats 64000000
set_option linter.unusedVariables false
set_option linter.unusedSimpArgs false
set_option linter.unusedSectionVars false
namespace Go.Proofs.YtbcecodakfejaaaGreat
def bu (x y : Int) : Bool := decide (x ≤ 134217728) && decide (y ≤ 134217728) && decide (-134217728 ≤ x) && decide (-134217728 ≤ y)
theorem kv {x y : Int} : bu x y = true ↔ (-134217728 ≤ x ∧ x ≤ 134217728) ∧ -134217728 ≤ y ∧ y ≤ 134217728 := by
  unfold bu;simp only [c6, cg];omega
def c5 (a1 a2 b1 b2 : Int) : Prop := a1 < b1 ∨ (a1 = b1 ∧ a2 ≤ b2)
instance (a1 a2 b1 b2 : Int) : Decidable (c5 a1 a2 b1 b2) := by unfold c5; exact inferInstance
theorem c5.Bd {a1 a2 : Int} : c5 a1 a2 a1 a2 := .inr ⟨rfl, oI _⟩
theorem c5.trans {a1 a2 b1 b2 c1 c2 : Int} (h : c5 a1 a2 b1 b2) (k : c5 b1 b2 c1 c2) : c5 a1 a2 c1 c2 := by unfold c5 at *; omega
theorem c5.total (a1 a2 b1 b2 : Int) : c5 a1 a2 b1 b2 ∨ c5 b1 b2 a1 a2 := by unfold c5; omega
theorem c5.xh {a1 a2 b1 b2 : Int} (h : c5 a1 a2 b1 b2) (k : c5 b1 b2 a1 a2) : a1 = b1 ∧ a2 = b2 := by unfold c5 at *; omega
def pu (p1 p2 a1 a2 b1 b2 : Int) : Prop := fG a1 b1 ≤ p1 ∧ p1 ≤ fF a1 b1 ∧ fG a2 b2 ≤ p2 ∧ p2 ≤ fF a2 b2
theorem Mt {s1 s2 t1 t2 p1 p2 : Int} (kj : c5 s1 s2 t1 t2) (aj : bW s1 s2 t1 t2 p1 p2 = 0) : pu p1 p2 s1 s2 t1 t2 ↔ c5 s1 s2 p1 p2 ∧ c5 p1 p2 t1 t2 := by
  unfold bW at aj;have rK : (t1 - s1) * (p2 - s2) = (t2 - s2) * (p1 - s1) := by omega
  unfold pu fG fF c5 at *
  by_cases h1 : s1 = t1
  · subst h1
    have e : (t2 - s2) * (p1 - s1) = 0 := by rw [← rK]; simp
    rcases tr.1 e with e | e
    · constructor
      · intro h; split at h <;> (try split at h) <;> (try split at h) <;> (try split at h) <;> omega
      · intro h; split <;> (try split) <;> (try split) <;> (try split) <;> omega
    · constructor
      · intro h; split at h <;> (try split at h) <;> (try split at h) <;> (try split at h) <;> omega
      · intro h; split <;> (try split) <;> (try split) <;> (try split) <;> omega
  · have h2 : s1 < t1 := by omega
    have hd : 0 < t1 - s1 := by omega
    rw [if_neg (show ¬ t1 < s1 by omega), if_pos (show t1 > s1 by omega)]
   
    have key : s1 ≤ p1 → p1 ≤ t1 → (if t2 < s2 then t2 else s2) ≤ p2 ∧ p2 ≤ (if t2 > s2 then t2 else s2) := by
      intro ba bo
      by_cases g : t2 < s2
      · rw [if_pos g, if_neg (by omega)]
        have a1 : (t2 - s2) * (t1 - s1) ≤ (t2 - s2) * (p1 - s1) := Int.mul_le_mul_of_nonpos_left (by omega) (by omega);have a2 : (t2 - s2) * (p1 - s1) ≤ 0 := Int.mul_nonpos_of_nonpos_of_nonneg (by omega) (by omega);rw [← rK] at a1 a2;rw [gq (t2 - s2)] at a1;have b1 := Int.le_of_mul_le_mul_left a1 hd
        have b2 : p2 - s2 ≤ 0 := by
          have : (t1 - s1) * (p2 - s2) ≤ (t1 - s1) * 0 := by omega
          exact Int.le_of_mul_le_mul_left this hd
        omega
      · rw [if_neg g]
        have a1 : (t2 - s2) * (p1 - s1) ≤ (t2 - s2) * (t1 - s1) := pO (by omega) (by omega);have a2 : 0 ≤ (t2 - s2) * (p1 - s1) := ga (by omega) (by omega);rw [← rK] at a1 a2;rw [gq (t2 - s2)] at a1;have b1 := Int.le_of_mul_le_mul_left a1 hd
        have b2 : 0 ≤ p2 - s2 := by
          have : (t1 - s1) * 0 ≤ (t1 - s1) * (p2 - s2) := by omega
          exact Int.le_of_mul_le_mul_left this hd
        split <;> omega
    constructor
    · rintro ⟨ba, bo, dU, hU⟩
      constructor
      · by_cases g : s1 < p1
        · exact .inl g
        · right
          have : p1 = s1 := by omega
          subst this;have : (t1 - p1) * (p2 - s2) = 0 := by rw [rK]; simp
          rcases tr.1 this with e | e <;> omega
      · by_cases g : p1 < t1
        · exact .inl g
        · right
          have : p1 = t1 := by omega
          subst this;rw [gq (t2 - s2)] at rK;have := Int.eq_of_mul_eq_mul_left (show p1 - s1 ≠ 0 by omega) rK;omega
    · rintro ⟨ba, bo⟩
      have I6 : s1 ≤ p1 := by omega
      have I7 : p1 ≤ t1 := by omega
      exact ⟨I6, I7, (key I6 I7).1, (key I6 I7).2⟩
def c3 (p1 p2 s1 s2 t1 t2 : Int) : Prop := bW s1 s2 t1 t2 p1 p2 = 0 ∧ pu p1 p2 s1 s2 t1 t2
theorem wG {s1 s2 t1 t2 p1 p2 : Int} (kj : c5 s1 s2 t1 t2) : c3 p1 p2 s1 s2 t1 t2 ↔ bW s1 s2 t1 t2 p1 p2 = 0 ∧ c5 s1 s2 p1 p2 ∧ c5 p1 p2 t1 t2 := by
  unfold c3
  constructor
  · rintro ⟨h, k⟩; exact ⟨h, (Mt kj h).1 k⟩
  · rintro ⟨h, k⟩; exact ⟨h, (Mt kj h).2 k⟩
theorem CJ (a1 a2 b1 b2 : Int) : bW a1 a2 b1 b2 a1 a2 = 0 := by unfold bW; grind
theorem G2 (a1 a2 b1 b2 : Int) : bW a1 a2 b1 b2 b1 b2 = 0 := by unfold bW; grind
theorem uQ {s1 s2 t1 t2 : Int} (kj : c5 s1 s2 t1 t2) : c3 s1 s2 s1 s2 t1 t2 := (wG kj).2 ⟨CJ .., .Bd, kj⟩
theorem uP {s1 s2 t1 t2 : Int} (kj : c5 s1 s2 t1 t2) : c3 t1 t2 s1 s2 t1 t2 := (wG kj).2 ⟨G2 .., kj, .Bd⟩
theorem A1 {p1 p2 s1 s2 : Int} (h : c3 p1 p2 s1 s2 s1 s2) : p1 = s1 ∧ p2 = s2 := by
  obtain ⟨_, h1, h2⟩ := (wG c5.Bd).1 h;have := c5.xh h1 h2; omega
def oG (s1 s2 bJ bK t1 t2 t3 t4 : Int) : Int := (bJ - s1) * (t4 - t2) - (bK - s2) * (t3 - t1)
theorem uS {s1 s2 bJ bK t1 t2 t3 t4 p1 p2 bV cC : Int} (hs : c5 s1 s2 bJ bK) (aB : c5 t1 t2 t3 t4) (hw : oG s1 s2 bJ bK t1 t2 t3 t4 = 0)
    (ps : c3 p1 p2 s1 s2 bJ bK) (pH : c3 p1 p2 t1 t2 t3 t4) (tx : c3 bV cC s1 s2 bJ bK) (gW : c5 t1 t2 bV cC) (agJ : c5 bV cC t3 t4) : c3 bV cC t1 t2 t3 t4 := by
  by_cases hd : s1 = bJ ∧ s2 = bK
  · obtain ⟨rfl, rfl⟩ := hd
    obtain ⟨rfl, rfl⟩ := A1 ps;obtain ⟨rfl, rfl⟩ := A1 tx;exact pH
  · refine (wG aB).2 ⟨?_, gW, agJ⟩
    have a := ps.1;have b := pH.1;have c := tx.1;unfold bW oG at *;have d1 : (bJ - s1) * ((t3 - t1) * (cC - t2) - (t4 - t2) * (bV - t1)) = 0 := by grind
    have d2 : (bK - s2) * ((t3 - t1) * (cC - t2) - (t4 - t2) * (bV - t1)) = 0 := by grind
    rcases tr.1 d1 with e | e
    · rcases tr.1 d2 with f | f
      · omega
      · exact f
    · exact e
theorem Mv {x y A B D : Int} (eN : 0 < D) (e : D = A - B) : (fG x y * D ≤ y * A - x * B ∧ y * A - x * B ≤ fF x y * D) ↔ (x = y ∨ (B ≤ 0 ∧ 0 ≤ A)) := by
  subst e;unfold fG fF
  by_cases h : x = y
  · subst h
    have : x * (A - B) = x * A - x * B := Int.mul_sub ..;simp [this]
  · have pos : ∀ {u v : Int}, 0 < u → (0 ≤ u * v ↔ 0 ≤ v) := by
      intro u v hu
      constructor
      · intro k
        have k' : u * 0 ≤ u * v := by omega
        exact Int.le_of_mul_le_mul_left k' hu
      · intro k; exact ga (by omega) k
    by_cases g : x < y
    · rw [if_neg (by omega), if_pos (show y > x from g)]
      have hu : 0 < y - x := by omega
      have aG : y * A - x * B - x * (A - B) = (y - x) * A := by grind
      have aO : y * (A - B) - (y * A - x * B) = (y - x) * (-B) := by grind
      have p1 := pos (v := A) hu;have p2 := pos (v := -B) hu;omega
    · rw [if_pos (by omega), if_neg (by omega)]
      have hu : 0 < x - y := by omega
      have aG : x * (A - B) - (y * A - x * B) = (x - y) * A := by grind
      have aO : y * A - x * B - y * (A - B) = (x - y) * (-B) := by grind
      have p1 := pos (v := A) hu;have p2 := pos (v := -B) hu;omega
def kE (n d a b : Int) : Prop := fG a b * d ≤ n ∧ n ≤ fF a b * d
theorem CD {x y u v A B D : Int} (eN : 0 < D) (e : D = A - B) (b7 : ¬ (x = y ∧ u = v)) : (kE (y * A - x * B) D x y ∧ kE (v * A - u * B) D u v) ↔ (B ≤ 0 ∧ 0 ≤ A) := by
  unfold kE;rw [Mv eN e, Mv eN e];omega
theorem sF {n d a b : Int} : kE n d a b ↔ kE n d b a := by
  unfold kE fG fF
  by_cases h : a = b
  · subst h; rfl
  · by_cases g : a < b
    · rw [if_neg (by omega), if_pos (show b > a from g), if_pos g, if_neg (by omega)]
    · rw [if_pos (show b < a by omega), if_neg (by omega), if_neg g, if_pos (by omega)]
structure fp where
  k : Int
  n : Int
  d : Int
  m : Int
  e : Int
  p1 : Int
  p2 : Int
  q1 : Int
  q2 : Int
def fH : fp := ⟨0, 0, 0, 0, 0, 0, 0, 0, 0⟩
def hJ (n d m e : Int) : fp := ⟨1, n, d, m, e, 0, 0, 0, 0⟩
def o5 (p1 p2 q1 q2 : Int) : fp := ⟨2, 0, 0, 0, 0, p1, p2, q1, q2⟩
def ix (n d : Int) : Int := if d < 0 then -n else n
def hI (d : Int) : Int := if d < 0 then -d else d
theorem r0 {d : Int} (h : d ≠ 0) (n : Int) : ix (-n) (-d) = ix n d := by unfold ix; split <;> split <;> omega
theorem AZ (d : Int) : hI (-d) = hI d := by unfold hI; split <;> split <;> omega
theorem Q3 {d : Int} (h : d ≠ 0) : 0 < hI d := by unfold hI; split <;> omega
def jY (a1 a2 b1 b2 c1 c2 d1 d2 : Int) : Int := ((b2 - a2) * a1 + (a1 - b1) * a2) * (c1 - d1) - (a1 - b1) * ((d2 - c2) * c1 + (c1 - d1) * c2)
def jZ (a1 a2 b1 b2 c1 c2 d1 d2 : Int) : Int := (b2 - a2) * ((d2 - c2) * c1 + (c1 - d1) * c2) - ((b2 - a2) * a1 + (a1 - b1) * a2) * (d2 - c2)
def c7 (a1 a2 b1 b2 c1 c2 d1 d2 : Int) : Int := (b2 - a2) * (c1 - d1) - (a1 - b1) * (d2 - c2)
theorem FV (a1 a2 b1 b2 c1 c2 d1 d2 : Int) : c7 a1 a2 b1 b2 c1 c2 d1 d2 = oG a1 a2 b1 b2 c1 c2 d1 d2 := by unfold c7 oG; grind
section
variable (a1 a2 b1 b2 c1 c2 d1 d2 : Int)
theorem BG : c7 b1 b2 a1 a2 c1 c2 d1 d2 = - c7 a1 a2 b1 b2 c1 c2 d1 d2 := by unfold c7; grind
theorem wX : c7 a1 a2 b1 b2 d1 d2 c1 c2 = - c7 a1 a2 b1 b2 c1 c2 d1 d2 := by unfold c7; grind
theorem FW : c7 c1 c2 d1 d2 a1 a2 b1 b2 = - c7 a1 a2 b1 b2 c1 c2 d1 d2 := by unfold c7; grind
theorem adJ : jY b1 b2 a1 a2 c1 c2 d1 d2 = - jY a1 a2 b1 b2 c1 c2 d1 d2 := by unfold jY; grind
theorem adK : jY a1 a2 b1 b2 d1 d2 c1 c2 = - jY a1 a2 b1 b2 c1 c2 d1 d2 := by unfold jY; grind
theorem QI : jY c1 c2 d1 d2 a1 a2 b1 b2 = - jY a1 a2 b1 b2 c1 c2 d1 d2 := by unfold jY; grind
theorem adL : jZ b1 b2 a1 a2 c1 c2 d1 d2 = - jZ a1 a2 b1 b2 c1 c2 d1 d2 := by unfold jZ; grind
theorem adM : jZ a1 a2 b1 b2 d1 d2 c1 c2 = - jZ a1 a2 b1 b2 c1 c2 d1 d2 := by unfold jZ; grind
theorem QJ : jZ c1 c2 d1 d2 a1 a2 b1 b2 = - jZ a1 a2 b1 b2 c1 c2 d1 d2 := by unfold jZ; grind
theorem JD : c1 * bW a1 a2 b1 b2 d1 d2 - d1 * bW a1 a2 b1 b2 c1 c2 = jY a1 a2 b1 b2 c1 c2 d1 d2 := by unfold jY bW; grind
theorem JE : c2 * bW a1 a2 b1 b2 d1 d2 - d2 * bW a1 a2 b1 b2 c1 c2 = jZ a1 a2 b1 b2 c1 c2 d1 d2 := by unfold jZ bW; grind
theorem KP : bW a1 a2 b1 b2 d1 d2 - bW a1 a2 b1 b2 c1 c2 = c7 a1 a2 b1 b2 c1 c2 d1 d2 := by unfold c7 bW; grind
end
def four (a1 a2 b1 b2 c1 c2 d1 d2 x y d : Int) : Prop := kE x d a1 b1 ∧ kE y d a2 b2 ∧ kE x d c1 d1 ∧ kE y d c2 d2
instance (n d a b : Int) : Decidable (kE n d a b) := by unfold kE; exact inferInstance
instance (a1 a2 b1 b2 c1 c2 d1 d2 x y d : Int) : Decidable (four a1 a2 b1 b2 c1 c2 d1 d2 x y d) := by unfold four; exact inferInstance
theorem wo {α : Type} {p q : Prop} [Decidable p] [Decidable q] {a b : α} (h : p ↔ q) : (if p then a else b) = if q then a else b := by
  by_cases k : p
  · rw [if_pos k, if_pos (h.1 k)]
  · rw [if_neg k, if_neg fun g => k (h.2 g)]
def tg (a1 a2 b1 b2 c1 c2 d1 d2 x y d : Int) : fp := if four a1 a2 b1 b2 c1 c2 d1 d2 x y d then hJ x d y d else fH
def mb (a1 a2 b1 b2 c1 c2 d1 d2 : Int) : fp :=
  tg a1 a2 b1 b2 c1 c2 d1 d2 (ix (jY a1 a2 b1 b2 c1 c2 d1 d2) (c7 a1 a2 b1 b2 c1 c2 d1 d2)) (ix (jZ a1 a2 b1 b2 c1 c2 d1 d2) (c7 a1 a2 b1 b2 c1 c2 d1 d2)) (hI (c7 a1 a2 b1 b2 c1 c2 d1 d2))
theorem ac3 {a1 a2 b1 b2 c1 c2 d1 d2 : Int} (h : c7 a1 a2 b1 b2 c1 c2 d1 d2 ≠ 0) : mb b1 b2 a1 a2 c1 c2 d1 d2 = mb a1 a2 b1 b2 c1 c2 d1 d2 := by
  unfold mb;rw [BG, adJ, adL, r0 h, r0 h, AZ];unfold tg four;exact wo (by rw [sF (a := b1), sF (a := b2)])
theorem ac4 {a1 a2 b1 b2 c1 c2 d1 d2 : Int} (h : c7 a1 a2 b1 b2 c1 c2 d1 d2 ≠ 0) : mb a1 a2 b1 b2 d1 d2 c1 c2 = mb a1 a2 b1 b2 c1 c2 d1 d2 := by
  unfold mb;rw [wX, adK, adM, r0 h, r0 h, AZ];unfold tg four;exact wo (by rw [sF (a := d1), sF (a := d2)])
theorem ac5 {a1 a2 b1 b2 c1 c2 d1 d2 : Int} (h : c7 a1 a2 b1 b2 c1 c2 d1 d2 ≠ 0) : mb c1 c2 d1 d2 a1 a2 b1 b2 = mb a1 a2 b1 b2 c1 c2 d1 d2 := by
  unfold mb;rw [FW, QI, QJ, r0 h, r0 h, AZ];unfold tg four;refine wo ?_
  constructor
  · rintro ⟨h1, h2, h3, aD⟩; exact ⟨h3, aD, h1, h2⟩
  · rintro ⟨h1, h2, h3, aD⟩; exact ⟨h3, aD, h1, h2⟩
def same (m n : Int) : Prop := (0 < m ∧ 0 < n) ∨ (m < 0 ∧ n < 0)
instance (m n : Int) : Decidable (same m n) := by unfold same; exact inferInstance
theorem TT {a1 a2 b1 b2 c1 c2 d1 d2 : Int} (h : c7 a1 a2 b1 b2 c1 c2 d1 d2 ≠ 0) : ¬ (a1 = b1 ∧ a2 = b2) ∧ ¬ (c1 = d1 ∧ c2 = d2) := by
  refine ⟨?_, ?_⟩
  · rintro ⟨rfl, rfl⟩; apply h; unfold c7; simp
  · rintro ⟨rfl, rfl⟩; apply h; unfold c7; simp
theorem Tv {a1 a2 b1 b2 c1 c2 d1 d2 : Int} (h : c7 a1 a2 b1 b2 c1 c2 d1 d2 ≠ 0) :
    (kE (ix (jY a1 a2 b1 b2 c1 c2 d1 d2) (c7 a1 a2 b1 b2 c1 c2 d1 d2)) (hI (c7 a1 a2 b1 b2 c1 c2 d1 d2)) c1 d1 ∧ kE (ix (jZ a1 a2 b1 b2 c1 c2 d1 d2) (c7 a1 a2 b1 b2 c1 c2 d1 d2)) (hI (c7 a1 a2 b1 b2 c1 c2 d1 d2)) c2 d2) ↔ ¬ same (bW a1 a2 b1 b2 c1 c2) (bW a1 a2 b1 b2 d1 d2) := by
  have b7 := (TT h).2;have aG := JD a1 a2 b1 b2 c1 c2 d1 d2;have aO := JE a1 a2 b1 b2 c1 c2 d1 d2;have cl := KP a1 a2 b1 b2 c1 c2 d1 d2;generalize jY a1 a2 b1 b2 c1 c2 d1 d2 = X at *;generalize jZ a1 a2 b1 b2 c1 c2 d1 d2 = Y at *;generalize c7 a1 a2 b1 b2 c1 c2 d1 d2 = w at *;generalize bW a1 a2 b1 b2 c1 c2 = C at *;generalize bW a1 a2 b1 b2 d1 d2 = D at *;unfold ix hI same
  by_cases g : w < 0
  · rw [if_pos g, if_pos g, if_pos g, sF (a := c1), sF (a := c2)]
    have aR := CD (x := d1) (y := c1) (u := d2) (v := c2) (A := -D) (B := -C) (D := -w) (by omega) (by omega) (by omega);have f1 : c1 * -D - d1 * -C = -X := by rw [← aG]; simp only [Int.mul_neg]; omega
    have f2 : c2 * -D - d2 * -C = -Y := by rw [← aO]; simp only [Int.mul_neg]; omega
    rw [f1, f2] at aR;rw [aR]; omega
  · rw [if_neg g, if_neg g, if_neg g, sF (a := c1), sF (a := c2)]
    have aR := CD (x := d1) (y := c1) (u := d2) (v := c2) (A := D) (B := C) (D := w) (by omega) (by omega) (by omega);rw [aG, aO] at aR;rw [aR]; omega
theorem ah9 {a1 a2 b1 b2 c1 c2 d1 d2 : Int} (h : c7 a1 a2 b1 b2 c1 c2 d1 d2 ≠ 0) :
    (kE (ix (jY a1 a2 b1 b2 c1 c2 d1 d2) (c7 a1 a2 b1 b2 c1 c2 d1 d2)) (hI (c7 a1 a2 b1 b2 c1 c2 d1 d2)) a1 b1 ∧ kE (ix (jZ a1 a2 b1 b2 c1 c2 d1 d2) (c7 a1 a2 b1 b2 c1 c2 d1 d2)) (hI (c7 a1 a2 b1 b2 c1 c2 d1 d2)) a2 b2) ↔ ¬ same (bW c1 c2 d1 d2 a1 a2) (bW c1 c2 d1 d2 b1 b2) := by
  have aM : c7 c1 c2 d1 d2 a1 a2 b1 b2 ≠ 0 := by rw [FW]; omega
  have := Tv aM;rw [QI, QJ, FW, r0 h, r0 h, AZ] at this;exact this
theorem YI {a1 a2 b1 b2 c1 c2 d1 d2 : Int} (h : c7 a1 a2 b1 b2 c1 c2 d1 d2 ≠ 0) :
    four a1 a2 b1 b2 c1 c2 d1 d2 (ix (jY a1 a2 b1 b2 c1 c2 d1 d2) (c7 a1 a2 b1 b2 c1 c2 d1 d2)) (ix (jZ a1 a2 b1 b2 c1 c2 d1 d2) (c7 a1 a2 b1 b2 c1 c2 d1 d2)) (hI (c7 a1 a2 b1 b2 c1 c2 d1 d2)) ↔ ¬ (same (bW a1 a2 b1 b2 c1 c2) (bW a1 a2 b1 b2 d1 d2) ∨ same (bW c1 c2 d1 d2 a1 a2) (bW c1 c2 d1 d2 b1 b2)) := by
  unfold four;have p := Tv h;have q := ah9 h
  constructor
  · rintro ⟨h1, h2, h3, aD⟩ (g | g)
    · exact p.1 ⟨h3, aD⟩ g
    · exact q.1 ⟨h1, h2⟩ g
  · intro g
    obtain ⟨h3, aD⟩ := p.2 fun k => g (.inl k);obtain ⟨h1, h2⟩ := q.2 fun k => g (.inr k);exact ⟨h1, h2, h3, aD⟩
def dF (a1 a2 b1 b2 : Int) : Int := if c5 a1 a2 b1 b2 then a1 else b1
def dk (a1 a2 b1 b2 : Int) : Int := if c5 a1 a2 b1 b2 then a2 else b2
def dy (a1 a2 b1 b2 : Int) : Int := if c5 a1 a2 b1 b2 then b1 else a1
def dj (a1 a2 b1 b2 : Int) : Int := if c5 a1 a2 b1 b2 then b2 else a2
theorem jW (a1 a2 b1 b2 : Int) : (dF a1 a2 b1 b2 = a1 ∧ dk a1 a2 b1 b2 = a2 ∧ dy a1 a2 b1 b2 = b1 ∧ dj a1 a2 b1 b2 = b2 ∧ c5 a1 a2 b1 b2) ∨ (dF a1 a2 b1 b2 = b1 ∧ dk a1 a2 b1 b2 = b2 ∧ dy a1 a2 b1 b2 = a1 ∧ dj a1 a2 b1 b2 = a2 ∧ c5 b1 b2 a1 a2) := by
  unfold dF dk dy dj
  by_cases h : c5 a1 a2 b1 b2
  · simp [h]
  · simp [h, (c5.total a1 a2 b1 b2).resolve_left h]
theorem uF (a1 a2 b1 b2 : Int) : c5 (dF a1 a2 b1 b2) (dk a1 a2 b1 b2) (dy a1 a2 b1 b2) (dj a1 a2 b1 b2) := by
  rcases jW a1 a2 b1 b2 with ⟨h1, h2, h3, aD, h⟩ | ⟨h1, h2, h3, aD, h⟩ <;> rw [h1, h2, h3, aD] <;> exact h
theorem P7 (a1 a2 b1 b2 : Int) : dF b1 b2 a1 a2 = dF a1 a2 b1 b2 ∧ dk b1 b2 a1 a2 = dk a1 a2 b1 b2 ∧ dy b1 b2 a1 a2 = dy a1 a2 b1 b2 ∧ dj b1 b2 a1 a2 = dj a1 a2 b1 b2 := by
  rcases jW a1 a2 b1 b2 with ⟨h1, h2, h3, aD, h⟩ | ⟨h1, h2, h3, aD, h⟩ <;> rcases jW b1 b2 a1 a2 with ⟨ba, bo, dU, hU, k⟩ | ⟨ba, bo, dU, hU, k⟩ <;> rw [h1, h2, h3, aD, ba, bo, dU, hU] <;> (try have := c5.xh h k) <;> simp_all
theorem A0 {p1 p2 a1 a2 b1 b2 : Int} : c3 p1 p2 b1 b2 a1 a2 ↔ c3 p1 p2 a1 a2 b1 b2 := by
  unfold c3 pu;have e : bW b1 b2 a1 a2 p1 p2 = - bW a1 a2 b1 b2 p1 p2 := by unfold bW; grind
  have m : ∀ x y : Int, fG x y = fG y x := fun x y => by unfold fG; split <;> split <;> omega
  have n : ∀ x y : Int, fF x y = fF y x := fun x y => by unfold fF; split <;> split <;> omega
  rw [e, m a1, m a2, n a1, n a2]
  constructor <;> rintro ⟨h, k⟩ <;> exact ⟨by omega, k⟩
instance (p1 p2 a1 a2 b1 b2 : Int) : Decidable (pu p1 p2 a1 a2 b1 b2) := by unfold pu; exact inferInstance
instance (p1 p2 a1 a2 b1 b2 : Int) : Decidable (c3 p1 p2 a1 a2 b1 b2) := by unfold c3; exact inferInstance
theorem wH {p1 p2 a1 a2 b1 b2 : Int} : c3 p1 p2 (dF a1 a2 b1 b2) (dk a1 a2 b1 b2) (dy a1 a2 b1 b2) (dj a1 a2 b1 b2) ↔ c3 p1 p2 a1 a2 b1 b2 := by
  rcases jW a1 a2 b1 b2 with ⟨h1, h2, h3, aD, h⟩ | ⟨h1, h2, h3, aD, h⟩ <;> rw [h1, h2, h3, aD];exact A0
theorem af7 {s1 s2 bJ bK t1 t2 t3 t4 : Int} : oG t1 t2 t3 t4 s1 s2 bJ bK = - oG s1 s2 bJ bK t1 t2 t3 t4 := by unfold oG; grind
theorem Jj {s1 s2 bJ bK t1 t2 t3 t4 p1 p2 : Int} (hs : c5 s1 s2 bJ bK) (aB : c5 t1 t2 t3 t4) (hw : oG s1 s2 bJ bK t1 t2 t3 t4 = 0) (ps : c3 p1 p2 s1 s2 bJ bK) (pH : c3 p1 p2 t1 t2 t3 t4) :
    c3 (dy s1 s2 t1 t2) (dj s1 s2 t1 t2) s1 s2 bJ bK ∧ c3 (dy s1 s2 t1 t2) (dj s1 s2 t1 t2) t1 t2 t3 t4 ∧ c3 (dF bJ bK t3 t4) (dk bJ bK t3 t4) s1 s2 bJ bK ∧ c3 (dF bJ bK t3 t4) (dk bJ bK t3 t4) t1 t2 t3 t4
    ∧ c5 (dy s1 s2 t1 t2) (dj s1 s2 t1 t2) p1 p2 ∧ c5 p1 p2 (dF bJ bK t3 t4) (dk bJ bK t3 t4) := by
  obtain ⟨_, dV, yu⟩ := (wG hs).1 ps;obtain ⟨_, t0, t9⟩ := (wG aB).1 pH;have pq : oG t1 t2 t3 t4 s1 s2 bJ bK = 0 := by rw [af7]; omega
  rcases jW s1 s2 t1 t2 with ⟨_, _, h3, aD, h⟩ | ⟨_, _, h3, aD, h⟩ <;> rcases jW bJ bK t3 t4 with ⟨ba, bo, _, _, k⟩ | ⟨ba, bo, _, _, k⟩ <;> rw [h3, aD, ba, bo]
  · exact ⟨uS aB hs pq pH ps (uQ aB) h (t0.trans yu), uQ aB, uP hs, uS hs aB hw ps pH (uP hs) (t0.trans yu) k, t0, yu⟩
  · exact ⟨uS aB hs pq pH ps (uQ aB) h (t0.trans yu), uQ aB, uS aB hs pq pH ps (uP aB) (dV.trans t9) k, uP aB, t0, t9⟩
  · exact ⟨uQ hs, uS hs aB hw ps pH (uQ hs) h (dV.trans t9), uP hs, uS hs aB hw ps pH (uP hs) (t0.trans yu) k, dV, yu⟩
  · exact ⟨uQ hs, uS hs aB hw ps pH (uQ hs) h (dV.trans t9), uS aB hs pq pH ps (uP aB) (dV.trans t9) k, uP aB, dV, t9⟩
def s8 (f1 f2 g1 g2 : Int) : fp := if f1 = g1 ∧ f2 = g2 then hJ f1 1 f2 1 else o5 f1 f2 g1 g2
def inl (s1 s2 bJ bK t1 t2 t3 t4 : Int) : fp :=
  if c3 (dy s1 s2 t1 t2) (dj s1 s2 t1 t2) s1 s2 bJ bK ∧ c3 (dy s1 s2 t1 t2) (dj s1 s2 t1 t2) t1 t2 t3 t4 then s8 (dy s1 s2 t1 t2) (dj s1 s2 t1 t2) (dF bJ bK t3 t4) (dk bJ bK t3 t4) else fH
def uD (a1 a2 b1 b2 c1 c2 d1 d2 : Int) : fp := inl (dF a1 a2 b1 b2) (dk a1 a2 b1 b2) (dy a1 a2 b1 b2) (dj a1 a2 b1 b2) (dF c1 c2 d1 d2) (dk c1 c2 d1 d2) (dy c1 c2 d1 d2) (dj c1 c2 d1 d2)
def gU (a1 a2 b1 b2 c1 c2 d1 d2 : Int) : fp := if c7 a1 a2 b1 b2 c1 c2 d1 d2 = 0 then uD a1 a2 b1 b2 c1 c2 d1 d2 else mb a1 a2 b1 b2 c1 c2 d1 d2
theorem Qj (a1 a2 b1 b2 c1 c2 d1 d2 : Int) : gU b1 b2 a1 a2 c1 c2 d1 d2 = gU a1 a2 b1 b2 c1 c2 d1 d2 := by
  unfold gU;obtain ⟨h1, h2, h3, aD⟩ := P7 a1 a2 b1 b2
  by_cases h : c7 a1 a2 b1 b2 c1 c2 d1 d2 = 0
  · rw [if_pos (by rw [BG]; omega), if_pos h]; unfold uD; rw [h1, h2, h3, aD]
  · rw [if_neg (by rw [BG]; omega), if_neg h, ac3 h]
theorem Qk (a1 a2 b1 b2 c1 c2 d1 d2 : Int) : gU a1 a2 b1 b2 d1 d2 c1 c2 = gU a1 a2 b1 b2 c1 c2 d1 d2 := by
  unfold gU;obtain ⟨h1, h2, h3, aD⟩ := P7 c1 c2 d1 d2
  by_cases h : c7 a1 a2 b1 b2 c1 c2 d1 d2 = 0
  · rw [if_pos (by rw [wX]; omega), if_pos h]; unfold uD; rw [h1, h2, h3, aD]
  · rw [if_neg (by rw [wX]; omega), if_neg h, ac4 h]
theorem Ql (a1 a2 b1 b2 c1 c2 d1 d2 : Int) : gU (dF a1 a2 b1 b2) (dk a1 a2 b1 b2) (dy a1 a2 b1 b2) (dj a1 a2 b1 b2) (dF c1 c2 d1 d2) (dk c1 c2 d1 d2) (dy c1 c2 d1 d2) (dj c1 c2 d1 d2) = gU a1 a2 b1 b2 c1 c2 d1 d2 := by
  rcases jW a1 a2 b1 b2 with ⟨h1, h2, h3, aD, _⟩ | ⟨h1, h2, h3, aD, _⟩ <;> rcases jW c1 c2 d1 d2 with ⟨ba, bo, dU, hU, _⟩ | ⟨ba, bo, dU, hU, _⟩ <;> rw [h1, h2, h3, aD, ba, bo, dU, hU]
  · rw [Qk]
  · rw [Qj]
  · rw [Qj, Qk]
def Jp (s1 s2 bJ bK t1 t2 t3 t4 A B C D : Int) : fp :=
  if A = B then inl s1 s2 bJ bK t1 t2 t3 t4
  else if same A B ∨ same C D then fH
  else hJ (ix (t3 * A - t1 * B) (A - B)) (hI (A - B)) (ix (t4 * A - t2 * B) (A - B)) (hI (A - B))
theorem AQ {s1 s2 bJ bK : Int} (h : c5 s1 s2 bJ bK) : dF s1 s2 bJ bK = s1 ∧ dk s1 s2 bJ bK = s2 ∧ dy s1 s2 bJ bK = bJ ∧ dj s1 s2 bJ bK = bK := by
  unfold dF dk dy dj; simp [h]
theorem ac6 {s1 s2 bJ bK t1 t2 t3 t4 : Int} (hs : c5 s1 s2 bJ bK) (aB : c5 t1 t2 t3 t4) :
    Jp s1 s2 bJ bK t1 t2 t3 t4 (bW s1 s2 bJ bK t1 t2) (bW s1 s2 bJ bK t3 t4) (bW t1 t2 t3 t4 s1 s2) (bW t1 t2 t3 t4 bJ bK) = gU s1 s2 bJ bK t1 t2 t3 t4 := by
  have aG := JD s1 s2 bJ bK t1 t2 t3 t4;have aO := JE s1 s2 bJ bK t1 t2 t3 t4;have cl := KP s1 s2 bJ bK t1 t2 t3 t4;unfold Jp gU
  by_cases h : c7 s1 s2 bJ bK t1 t2 t3 t4 = 0
  · rw [if_pos (by omega), if_pos h]
    unfold uD;obtain ⟨h1, h2, h3, aD⟩ := AQ hs;obtain ⟨ba, bo, dU, hU⟩ := AQ aB;rw [h1, h2, h3, aD, ba, bo, dU, hU]
  · rw [if_neg (by omega), if_neg h]
    have f := YI h;have g1 : t3 * bW s1 s2 bJ bK t1 t2 - t1 * bW s1 s2 bJ bK t3 t4 = - jY s1 s2 bJ bK t1 t2 t3 t4 := by omega
    have g2 : t4 * bW s1 s2 bJ bK t1 t2 - t2 * bW s1 s2 bJ bK t3 t4 = - jZ s1 s2 bJ bK t1 t2 t3 t4 := by omega
    have g3 : bW s1 s2 bJ bK t1 t2 - bW s1 s2 bJ bK t3 t4 = - c7 s1 s2 bJ bK t1 t2 t3 t4 := by omega
    rw [g1, g2, g3, r0 h, r0 h, AZ];unfold mb tg
    by_cases q : same (bW s1 s2 bJ bK t1 t2) (bW s1 s2 bJ bK t3 t4) ∨ same (bW t1 t2 t3 t4 s1 s2) (bW t1 t2 t3 t4 bJ bK)
    · rw [if_pos q, if_neg fun k => f.1 k q]
    · rw [if_neg q, if_pos (f.2 q)]
def te (a b : Int × Int) : Prop := a.1 < b.1 ∨ (a.1 = b.1 ∧ a.2 < b.2)
instance (a b : Int × Int) : Decidable (te a b) := by unfold te; exact inferInstance
def jF (a b : Int × Int) : Int × Int := if te a b then a else b
def lb (a b : Int × Int) : Int × Int := if jF a b = a then b else a
theorem acL (a b : Int × Int) : (jF a b = a ∨ jF a b = b) ∧ c5 (jF a b).1 (jF a b).2 a.1 a.2 ∧ c5 (jF a b).1 (jF a b).2 b.1 b.2 := by
  unfold jF c5
  by_cases h : te a b
  · rw [if_pos h]; unfold te at h; exact ⟨.inl rfl, by omega, by omega⟩
  · rw [if_neg h]; unfold te at h; exact ⟨.inr rfl, by omega, by omega⟩
theorem adn (a b : Int × Int) : (lb a b = a ∨ lb a b = b) ∧ c5 a.1 a.2 (lb a b).1 (lb a b).2 ∧ c5 b.1 b.2 (lb a b).1 (lb a b).2 := by
  unfold lb jF c5
  by_cases h : te a b
  · rw [if_pos h, if_pos rfl]; unfold te at h; exact ⟨.inr rfl, by omega, by omega⟩
  · rw [if_neg h]
    by_cases e : b = a
    · rw [if_pos e]; subst e; exact ⟨.inr rfl, by omega, by omega⟩
    · rw [if_neg e]
      have : ¬ (b.1 = a.1 ∧ b.2 = a.2) := fun k => e (ku k.1 k.2);unfold te at h;exact ⟨.inl rfl, by omega, by omega⟩
theorem Ho : ∀ (l : List (Int × Int)) (x : Int × Int), l.foldl jF x ∈ x :: l ∧ ∀ p, p ∈ x :: l → c5 (l.foldl jF x).1 (l.foldl jF x).2 p.1 p.2
  | [], x => ⟨by simp, fun p hp => by simp at hp; subst hp; exact .Bd⟩
  | y :: l, x => by
    obtain ⟨h1, h2⟩ := Ho l (jF x y);obtain ⟨eW, ba, bo⟩ := acL x y;refine ⟨?_, fun p hp => ?_⟩
    · simp only [pN]
      rcases fl.1 h1 with e | e
      · rw [e]; rcases eW with eW | eW <;> rw [eW] <;> simp
      · simp [e]
    · simp only [pN]
      have h3 := h2 (jF x y) (by simp);simp only [fl] at hp;rcases hp with rfl | rfl | hp
      · exact h3.trans ba
      · exact h3.trans bo
      · exact h2 p (by simp [hp])
theorem NX : ∀ (l : List (Int × Int)) (x : Int × Int), l.foldl lb x ∈ x :: l ∧ ∀ p, p ∈ x :: l → c5 p.1 p.2 (l.foldl lb x).1 (l.foldl lb x).2
  | [], x => ⟨by simp, fun p hp => by simp at hp; subst hp; exact .Bd⟩
  | y :: l, x => by
    obtain ⟨h1, h2⟩ := NX l (lb x y);obtain ⟨eW, ba, bo⟩ := adn x y;refine ⟨?_, fun p hp => ?_⟩
    · simp only [pN]
      rcases fl.1 h1 with e | e
      · rw [e]; rcases eW with eW | eW <;> rw [eW] <;> simp
      · simp [e]
    · simp only [pN]
      have h3 := h2 (lb x y) (by simp);simp only [fl] at hp;rcases hp with rfl | rfl | hp
      · exact ba.trans h3
      · exact bo.trans h3
      · exact h2 p (by simp [hp])
def ends (a1 a2 b1 b2 c1 c2 d1 d2 : Int) : List (Int × Int) := [(a1, a2), (b1, b2), (c1, c2), (d1, d2)].filter fun p => decide (c3 p.1 p.2 a1 a2 b1 b2) && decide (c3 p.1 p.2 c1 c2 d1 d2)
def Fq : List (Int × Int) → fp
  | [] => fH
  | x :: l => s8 (l.foldl jF x).1 (l.foldl jF x).2 (l.foldl lb x).1 (l.foldl lb x).2
theorem ahk {a1 a2 b1 b2 c1 c2 d1 d2 : Int} (h : c7 a1 a2 b1 b2 c1 c2 d1 d2 = 0) : Fq (ends a1 a2 b1 b2 c1 c2 d1 d2) = gU a1 a2 b1 b2 c1 c2 d1 d2 := by
  have nG := Ql a1 a2 b1 b2 c1 c2 d1 d2;have hs := uF a1 a2 b1 b2;have aB := uF c1 c2 d1 d2
  have hw : oG (dF a1 a2 b1 b2) (dk a1 a2 b1 b2) (dy a1 a2 b1 b2) (dj a1 a2 b1 b2) (dF c1 c2 d1 d2) (dk c1 c2 d1 d2) (dy c1 c2 d1 d2) (dj c1 c2 d1 d2) = 0 := by
    have h1 := BG a1 a2 b1 b2 c1 c2 d1 d2;have h2 := wX a1 a2 b1 b2 c1 c2 d1 d2;have h3 := wX b1 b2 a1 a2 c1 c2 d1 d2;rw [← FV];rcases jW a1 a2 b1 b2 with ⟨h1, h2, h3, aD, _⟩ | ⟨h1, h2, h3, aD, _⟩ <;> rcases jW c1 c2 d1 d2 with ⟨ba, bo, dU, hU, _⟩ | ⟨ba, bo, dU, hU, _⟩ <;> rw [h1, h2, h3, aD, ba, bo, dU, hU] <;> omega
  have oP : ∀ p1 p2, c3 p1 p2 (dF a1 a2 b1 b2) (dk a1 a2 b1 b2) (dy a1 a2 b1 b2) (dj a1 a2 b1 b2) ↔ c3 p1 p2 a1 a2 b1 b2 := fun _ _ => wH;have tO9 : ∀ p1 p2, c3 p1 p2 (dF c1 c2 d1 d2) (dk c1 c2 d1 d2) (dy c1 c2 d1 d2) (dj c1 c2 d1 d2) ↔ c3 p1 p2 c1 c2 d1 d2 := fun _ _ => wH
  have iq : (dF a1 a2 b1 b2, dk a1 a2 b1 b2) = (a1, a2) ∧ (dy a1 a2 b1 b2, dj a1 a2 b1 b2) = (b1, b2) ∨ (dF a1 a2 b1 b2, dk a1 a2 b1 b2) = (b1, b2) ∧ (dy a1 a2 b1 b2, dj a1 a2 b1 b2) = (a1, a2) := by
    rcases jW a1 a2 b1 b2 with ⟨h1, h2, h3, aD, _⟩ | ⟨h1, h2, h3, aD, _⟩ <;> rw [h1, h2, h3, aD] <;> simp
  have aq : (dF c1 c2 d1 d2, dk c1 c2 d1 d2) = (c1, c2) ∧ (dy c1 c2 d1 d2, dj c1 c2 d1 d2) = (d1, d2) ∨ (dF c1 c2 d1 d2, dk c1 c2 d1 d2) = (d1, d2) ∧ (dy c1 c2 d1 d2, dj c1 c2 d1 d2) = (c1, c2) := by
    rcases jW c1 c2 d1 d2 with ⟨h1, h2, h3, aD, _⟩ | ⟨h1, h2, h3, aD, _⟩ <;> rw [h1, h2, h3, aD] <;> simp
  rw [← nG];unfold gU;rw [if_pos (by rw [FV]; exact hw)];unfold uD;obtain ⟨h1, h2, h3, aD⟩ := AQ hs;obtain ⟨ba, bo, dU, hU⟩ := AQ aB;rw [h1, h2, h3, aD, ba, bo, dU, hU];clear h1 h2 h3 aD ba bo dU hU nG
  have mem : ∀ p, p ∈ ends a1 a2 b1 b2 c1 c2 d1 d2 ↔ (p = (a1, a2) ∨ p = (b1, b2) ∨ p = (c1, c2) ∨ p = (d1, d2)) ∧ c3 p.1 p.2 a1 a2 b1 b2 ∧ c3 p.1 p.2 c1 c2 d1 d2 := by
    intro p; unfold ends; simp only [tp, c6, cg, fl, pK, or_false]
  generalize ends a1 a2 b1 b2 c1 c2 d1 d2 = L at *;generalize dF a1 a2 b1 b2 = s1 at *;generalize dk a1 a2 b1 b2 = s2 at *;generalize dy a1 a2 b1 b2 = bJ at *;generalize dj a1 a2 b1 b2 = bK at *;generalize dF c1 c2 d1 d2 = t1 at *;generalize dk c1 c2 d1 d2 = t2 at *;generalize dy c1 c2 d1 d2 = t3 at *;generalize dj c1 c2 d1 d2 = t4 at *;have mX : ((dy s1 s2 t1 t2, dj s1 s2 t1 t2) = (s1, s2) ∨ (dy s1 s2 t1 t2, dj s1 s2 t1 t2) = (t1, t2)) := by rcases jW s1 s2 t1 t2 with ⟨_, _, h3, aD, _⟩ | ⟨_, _, h3, aD, _⟩ <;> rw [h3, aD] <;> simp
  have CR : ((dF bJ bK t3 t4, dk bJ bK t3 t4) = (bJ, bK) ∨ (dF bJ bK t3 t4, dk bJ bK t3 t4) = (t3, t4)) := by rcases jW bJ bK t3 t4 with ⟨h3, aD, _⟩ | ⟨h3, aD, _⟩ <;> rw [h3, aD] <;> simp
  have key := fun p1 p2 => @Jj s1 s2 bJ bK t1 t2 t3 t4 p1 p2 hs aB hw;unfold inl;generalize dy s1 s2 t1 t2 = f1 at *;generalize dj s1 s2 t1 t2 = f2 at *;generalize dF bJ bK t3 t4 = g1 at *;generalize dk bJ bK t3 t4 = g2 at *
  have Nr : (f1, f2) = (a1, a2) ∨ (f1, f2) = (b1, b2) ∨ (f1, f2) = (c1, c2) ∨ (f1, f2) = (d1, d2) := by
    rcases mX with e | e <;> rw [e]
    · rcases iq with ⟨e, _⟩ | ⟨e, _⟩ <;> rw [e] <;> simp
    · rcases aq with ⟨e, _⟩ | ⟨e, _⟩ <;> rw [e] <;> simp
  have Ye : (g1, g2) = (a1, a2) ∨ (g1, g2) = (b1, b2) ∨ (g1, g2) = (c1, c2) ∨ (g1, g2) = (d1, d2) := by
    rcases CR with e | e <;> rw [e]
    · rcases iq with ⟨_, e⟩ | ⟨_, e⟩ <;> rw [e] <;> simp
    · rcases aq with ⟨_, e⟩ | ⟨_, e⟩ <;> rw [e] <;> simp
  cases L with
  | nil =>
    rw [if_neg]
    · rfl
    · rintro ⟨h1, h2⟩
      have := (mem (f1, f2)).2 ⟨Nr, (oP _ _).1 h1, (tO9 _ _).1 h2⟩;simp at this
  | cons x l =>
    obtain ⟨_, jI, agE⟩ := (mem x).1 (by simp);obtain ⟨bY, b0, gf, iE, _, _⟩ := key x.1 x.2 ((oP _ _).2 jI) ((tO9 _ _).2 agE);rw [if_pos ⟨bY, b0⟩];obtain ⟨m1, m2⟩ := Ho l x;obtain ⟨cE, cP⟩ := NX l x;have YG := (mem (f1, f2)).2 ⟨Nr, (oP _ _).1 bY, (tO9 _ _).1 b0⟩;have rE := (mem (g1, g2)).2 ⟨Ye, (oP _ _).1 gf, (tO9 _ _).1 iE⟩;have v1 := m2 _ YG;have v2 := cP _ rE;obtain ⟨_, pm, agB⟩ := (mem _).1 m1;obtain ⟨_, agq, agC⟩ := (mem _).1 cE;obtain ⟨_, _, _, _, w1, _⟩ := key _ _ ((oP _ _).2 pm) ((tO9 _ _).2 agB);obtain ⟨_, _, _, _, _, w2⟩ := key _ _ ((oP _ _).2 agq) ((tO9 _ _).2 agC);obtain ⟨e2, z2⟩ := c5.xh v1 w1;obtain ⟨z3, z4⟩ := c5.xh v2 w2;simp only [Fq];rw [e2, z2, ← z3, ← z4]
structure h9 where
 n : Int
 d : Int
 own : Bool
structure Pa where
 f : h9
 t : h9
def hP (x y : h9) : Int := bR (x.n * y.d) (y.n * x.d)
def rW (x y : h9) : h9 := if 0 < hP x y ∨ (hP x y = 0 ∧ y.own = true) then x else y
def rA (x y : h9) : h9 := if hP x y < 0 ∨ (hP x y = 0 ∧ y.own = true) then x else y
def jV (p : Pa) (u v : Int) (own : Bool) : Pa :=
 if 0 < v - u then ⟨rW p.f ⟨-u, v - u, own⟩, p.t⟩
 else if v - u < 0 then ⟨p.f, rA p.t ⟨u, -(v - u), own⟩⟩
 else if u < 0 ∨ (u = 0 ∧ own = false) then ⟨⟨1, 1, false⟩, ⟨0, 1, false⟩⟩ else p
def tT (p : Pa) : Bool := decide (hP p.f p.t < 0) || (decide (hP p.f p.t = 0) && p.f.own && p.t.own)
def rl : Pa := ⟨⟨0, 1, true⟩, ⟨1, 1, true⟩⟩
theorem I0 (x y : Int) : bR x y < 0 ↔ x < y := by unfold bR; split <;> (try split) <;> omega
theorem abq (x y : Int) : 0 < bR x y ↔ y < x := by unfold bR; split <;> (try split) <;> omega
theorem IZ (x y : Int) : bR x y = 0 ↔ x = y := by unfold bR; split <;> (try split) <;> omega
def q6 (x : h9) (n d : Int) : Prop := x.n * d < n * x.d ∨ (x.own = true ∧ x.n * d = n * x.d)
def q8 (y : h9) (n d : Int) : Prop := n * y.d < y.n * d ∨ (y.own = true ∧ n * y.d = y.n * d)
def o0 (p : Pa) (n d : Int) : Prop := q6 p.f n d ∧ q8 p.t n d
theorem py {a b c : Int} (h : a < b) (aj : 0 < c) : a * c < b * c := Int.mul_lt_mul_of_pos_right h aj
theorem lt_mul {a b c : Int} (h : a * c < b * c) (aj : 0 < c) : a < b := Int.lt_of_mul_lt_mul_right h (by omega)
theorem le_mul {a b c : Int} (h : a * c ≤ b * c) (aj : 0 < c) : a ≤ b := Int.le_of_mul_le_mul_right h aj
theorem eq_mul {a b c : Int} (h : a * c = b * c) (aj : 0 < c) : a = b := Int.eq_of_mul_eq_mul_right (by omega) h
theorem vK {a b c d e f : Int} (ab : 0 < b) (hd : 0 < d) (ap : 0 < f) (h : a * d < c * b) (k : c * f < e * d) : a * f < e * b := by
 have h1 := py h ap;have h2 := py k ab;refine lt_mul (c := d) ?_ hd;have aG : a * d * f = a * f * d := by grind
 have aO : c * b * f = c * f * b := by grind
 have cl : e * d * b = e * b * d := by grind
 omega
theorem xC {a b c d e f : Int} (ab : 0 < b) (hd : 0 < d) (ap : 0 < f) (h : a * d = c * b) (k : c * f < e * d) : a * f < e * b := by
 have h2 := py k ab;refine lt_mul (c := d) ?_ hd;have aG : a * d * f = a * f * d := by grind
 have aO : c * b * f = c * f * b := by grind
 have cl : e * d * b = e * b * d := by grind
 have h1 : a * d * f = c * b * f := by rw [h]
 omega
theorem xD {a b c d e f : Int} (ab : 0 < b) (hd : 0 < d) (ap : 0 < f) (h : a * d < c * b) (k : c * f = e * d) : a * f < e * b := by
 have h1 := py h ap;refine lt_mul (c := d) ?_ hd;have aG : a * d * f = a * f * d := by grind
 have aO : c * b * f = c * f * b := by grind
 have cl : e * d * b = e * b * d := by grind
 have h2 : c * f * b = e * d * b := by rw [k]
 omega
theorem Hs {a b c d e f : Int} (ab : 0 < b) (hd : 0 < d) (ap : 0 < f) (h : a * d = c * b) (k : c * f = e * d) : a * f = e * b := by
 refine eq_mul (c := d) ?_ hd;have aG : a * d * f = a * f * d := by grind
 have aO : c * b * f = c * f * b := by grind
 have cl : e * d * b = e * b * d := by grind
 have h1 : a * d * f = c * b * f := by rw [h]
 have h2 : c * f * b = e * d * b := by rw [k]
 omega
theorem vC (x y : h9) : (x.n * y.d < y.n * x.d ∧ hP x y < 0) ∨ (x.n * y.d = y.n * x.d ∧ hP x y = 0) ∨ (y.n * x.d < x.n * y.d ∧ 0 < hP x y) := by
 have h1 := I0 (x.n * y.d) (y.n * x.d);have h2 := abq (x.n * y.d) (y.n * x.d);have h3 := IZ (x.n * y.d) (y.n * x.d);unfold hP;omega
theorem Ea (x y : h9) : (rW x y = x ∧ (0 < hP x y ∨ (hP x y = 0 ∧ y.own = true))) ∨ (rW x y = y ∧ ¬ (0 < hP x y ∨ (hP x y = 0 ∧ y.own = true))) := by
 unfold rW
 split
 ·rename_i h; exact .inl ⟨rfl, h⟩
 ·rename_i h; exact .inr ⟨rfl, h⟩
theorem CQ (x y : h9) : (rA x y = x ∧ (hP x y < 0 ∨ (hP x y = 0 ∧ y.own = true))) ∨ (rA x y = y ∧ ¬ (hP x y < 0 ∨ (hP x y = 0 ∧ y.own = true))) := by
 unfold rA
 split
 ·rename_i h; exact .inl ⟨rfl, h⟩
 ·rename_i h; exact .inr ⟨rfl, h⟩
theorem VH {x y : h9} {n d : Int} (aa : 0 < x.d) (ai : 0 < y.d) (hd : 0 < d) : q6 (rW x y) n d ↔ q6 x n d ∧ q6 y n d := by
 unfold q6;rcases Ea x y with ⟨e, h⟩ | ⟨e, h⟩ <;> rw [e] <;> rcases vC x y with ⟨t, c⟩ | ⟨t, c⟩ | ⟨t, c⟩
 ·omega
 ·have az : y.own = true := by rcases h with h | ⟨_, h⟩ <;> first | exact h | (exfalso; omega)
  refine ⟨fun k => ⟨k, ?_⟩, fun k => k.1⟩;rcases k with k | ⟨_, k⟩
  ·exact .inl (xC ai aa hd t.symm k)
  ·exact .inr ⟨az, Hs ai aa hd t.symm k⟩
 ·refine ⟨fun k => ⟨k, ?_⟩, fun k => k.1⟩;rcases k with k | ⟨_, k⟩
  ·exact .inl (vK ai aa hd t k)
  ·exact .inl (xD ai aa hd t k)
 ·refine ⟨fun k => ⟨?_, k⟩, fun k => k.2⟩;rcases k with k | ⟨_, k⟩
  ·exact .inl (vK aa ai hd t k)
  ·exact .inl (xD aa ai hd t k)
 ·refine ⟨fun k => ⟨?_, k⟩, fun k => k.2⟩;have az : ¬ y.own = true := fun q => h (.inr ⟨c, q⟩);rcases k with k | ⟨q, k⟩
  ·exact .inl (xC aa ai hd t k)
  ·exact absurd q az
 ·omega
theorem W3 {x y : h9} {n d : Int} (aa : 0 < x.d) (ai : 0 < y.d) (hd : 0 < d) : q8 (rA x y) n d ↔ q8 x n d ∧ q8 y n d := by
 unfold q8;rcases CQ x y with ⟨e, h⟩ | ⟨e, h⟩ <;> rw [e] <;> rcases vC x y with ⟨t, c⟩ | ⟨t, c⟩ | ⟨t, c⟩
 ·refine ⟨fun k => ⟨k, ?_⟩, fun k => k.1⟩;rcases k with k | ⟨_, k⟩
  ·exact .inl (vK hd aa ai k t)
  ·exact .inl (xC hd aa ai k t)
 ·have az : y.own = true := by rcases h with h | ⟨_, h⟩ <;> first | exact h | (exfalso; omega)
  refine ⟨fun k => ⟨k, ?_⟩, fun k => k.1⟩;rcases k with k | ⟨_, k⟩
  ·exact .inl (xD hd aa ai k t)
  ·exact .inr ⟨az, Hs hd aa ai k t⟩
 ·omega
 ·omega
 ·refine ⟨fun k => ⟨?_, k⟩, fun k => k.2⟩;have az : ¬ y.own = true := fun q => h (.inr ⟨c, q⟩);rcases k with k | ⟨q, k⟩
  ·exact .inl (xD hd ai aa k t.symm)
  ·exact absurd q az
 ·refine ⟨fun k => ⟨?_, k⟩, fun k => k.2⟩;rcases k with k | ⟨_, k⟩
  ·exact .inl (vK hd ai aa k t)
  ·exact .inl (xC hd ai aa k t)
def iW (u v : Int) (own : Bool) (n d : Int) : Prop := 0 < u * (d - n) + v * n ∨ (own = true ∧ u * (d - n) + v * n = 0)
theorem D7 {p : Pa} {u v n d : Int} {own : Bool} (ap : 0 < p.f.d) (aB : 0 < p.t.d) (hd : 0 < d) : o0 (jV p u v own) n d ↔ o0 p n d ∧ iW u v own n d := by
 have dh : u * (d - n) + v * n = (v - u) * n + u * d := by grind
 unfold jV
 by_cases h1 : 0 < v - u
 ·rw [if_pos h1];unfold o0;rw [VH ap h1 hd]
  have : q6 ⟨-u, v - u, own⟩ n d ↔ iW u v own n d := by
   unfold q6 iW;simp only;have aG : -u * d = -(u * d) := by grind
   have aO : n * (v - u) = (v - u) * n := by grind
   rw [dh, aG, aO]
   constructor
   ·rintro (k | ⟨k, l⟩)
    ·exact .inl (by omega)
    ·exact .inr ⟨k, by omega⟩
   ·rintro (k | ⟨k, l⟩)
    ·exact .inl (by omega)
    ·exact .inr ⟨k, by omega⟩
  rw [this]
  constructor
  ·rintro ⟨⟨a, b⟩, c⟩; exact ⟨⟨a, c⟩, b⟩
  ·rintro ⟨⟨a, c⟩, b⟩; exact ⟨⟨a, b⟩, c⟩
 ·rw [if_neg h1]
  by_cases h2 : v - u < 0
  ·rw [if_pos h2];unfold o0;have ak : (0 : Int) < -(v - u) := by omega
   rw [W3 aB ak hd]
   have : q8 ⟨u, -(v - u), own⟩ n d ↔ iW u v own n d := by
    unfold q8 iW;simp only;have aO : n * -(v - u) = -((v - u) * n) := by grind
    rw [dh, aO]
    constructor
    ·rintro (k | ⟨k, l⟩)
     ·exact .inl (by omega)
     ·exact .inr ⟨k, by omega⟩
    ·rintro (k | ⟨k, l⟩)
     ·exact .inl (by omega)
     ·exact .inr ⟨k, by omega⟩
   rw [this]
   constructor
   ·rintro ⟨a, b, c⟩; exact ⟨⟨a, b⟩, c⟩
   ·rintro ⟨⟨a, b⟩, c⟩; exact ⟨a, b, c⟩
  ·rw [if_neg h2];have cl : v - u = 0 := by omega
   have ey : u * (d - n) + v * n = u * d := by rw [dh, cl]; omega
   by_cases h3 : u < 0 ∨ (u = 0 ∧ own = false)
   ·rw [if_pos h3]
    have jS : ¬ iW u v own n d := by
     unfold iW;rw [ey];rcases h3 with h3 | ⟨rfl, rfl⟩
     ·have := py h3 hd;omega
     ·simp
    refine ⟨fun k => absurd k ?_, fun k => absurd k.2 jS⟩;unfold o0 q6 q8;simp;omega
   ·rw [if_neg h3]
    have abl : iW u v own n d := by
     unfold iW;rw [ey]
     by_cases aD : u = 0
     ·subst aD;right;refine ⟨?_, by simp⟩;cases own with
      | true => rfl
      | false => exact absurd (.inr ⟨rfl, rfl⟩) h3
     ·left;have : 0 < u := by omega
      have := py this hd;omega
    exact ⟨fun k => ⟨k, abl⟩, fun k => k.1⟩
theorem acB {x y : h9} (aa : 0 < x.d) (ai : 0 < y.d) : 0 < (rW x y).d := by unfold rW; split <;> assumption
theorem Yb {x y : h9} (aa : 0 < x.d) (ai : 0 < y.d) : 0 < (rA x y).d := by unfold rA; split <;> assumption
theorem rU {p : Pa} {u v : Int} {own : Bool} (ap : 0 < p.f.d) (aB : 0 < p.t.d) : 0 < (jV p u v own).f.d ∧ 0 < (jV p u v own).t.d := by
 unfold jV
 by_cases h1 : 0 < v - u
 ·rw [if_pos h1]; exact ⟨acB ap h1, aB⟩
 ·rw [if_neg h1]
  by_cases h2 : v - u < 0
  ·rw [if_pos h2]; exact ⟨ap, Yb aB (by simp only; omega)⟩
  ·rw [if_neg h2]
   split
   ·exact ⟨by decide, by decide⟩
   ·exact ⟨ap, aB⟩
def Jq (x y : h9) : Int := x.n * y.d + y.n * x.d
def Ei (x y : h9) : Int := x.d * y.d + x.d * y.d
theorem Qt {p : Pa} (ap : 0 < p.f.d) (aB : 0 < p.t.d) (h : p.f.n * p.t.d < p.t.n * p.f.d) : 0 < Ei p.f p.t ∧ o0 p (Jq p.f p.t) (Ei p.f p.t) := by
 unfold Jq Ei o0 q6 q8;have hm : 0 < p.f.d * p.t.d := Int.mul_pos ap aB;refine ⟨by omega, .inl ?_, .inl ?_⟩
 ·have := py h ap;grind
 ·have := py h aB;grind
theorem L3 {p : Pa} (ap : 0 < p.f.d) (aB : 0 < p.t.d) : tT p = true ↔ ∃ n d, 0 < d ∧ o0 p n d := by
 unfold tT;simp only [oJ, c6, cg]
 constructor
 ·intro h;rcases vC p.f p.t with ⟨t, c⟩ | ⟨t, c⟩ | ⟨t, c⟩
  ·obtain ⟨h1, h2⟩ := Qt ap aB t;exact ⟨_, _, h1, h2⟩
  ·rcases h with h | ⟨⟨_, h1⟩, h2⟩
   ·omega
   ·exact ⟨p.f.n, p.f.d, ap, .inr ⟨h1, rfl⟩, .inr ⟨h2, t⟩⟩
  ·rcases h with h | ⟨⟨h, _⟩, _⟩ <;> omega
 ·rintro ⟨n, d, hd, h1, h2⟩;rcases vC p.f p.t with ⟨t, c⟩ | ⟨t, c⟩ | ⟨t, c⟩
  ·exact .inl c
  ·right;refine ⟨⟨c, ?_⟩, ?_⟩
   ·rcases h1 with h1 | ⟨h1, _⟩
    ·exfalso;rcases h2 with h2 | ⟨_, h2⟩
     ·have := vK ap hd aB h1 h2; omega
     ·have := xD ap hd aB h1 h2; omega
    ·exact h1
   ·rcases h2 with h2 | ⟨h2, _⟩
    ·exfalso;rcases h1 with h1 | ⟨_, h1⟩
     ·have := vK ap hd aB h1 h2; omega
     ·have := xC ap hd aB h1 h2; omega
    ·exact h2
  ·exfalso;rcases h1 with h1 | ⟨_, h1⟩ <;> rcases h2 with h2 | ⟨_, h2⟩
   ·have := vK ap hd aB h1 h2; omega
   ·have := xD ap hd aB h1 h2; omega
   ·have := xC ap hd aB h1 h2; omega
   ·have := Hs ap hd aB h1 h2; omega
def ry (bY v1 b0 v2 gf v3 iE v4 : Int) (o p : Bool) : Pa := jV (jV (jV (jV rl bY v1 o) b0 v2 o) gf v3 p) iE v4 p
theorem G4 (bY v1 b0 v2 gf v3 iE v4 : Int) (o p : Bool) : 0 < (ry bY v1 b0 v2 gf v3 iE v4 o p).f.d ∧ 0 < (ry bY v1 b0 v2 gf v3 iE v4 o p).t.d := by
 unfold ry;have h1 := rU (p := rl) (u := bY) (v := v1) (own := o) (by decide) (by decide);have h2 := rU (u := b0) (v := v2) (own := o) h1.1 h1.2;have h3 := rU (u := gf) (v := v3) (own := p) h2.1 h2.2;exact rU (u := iE) (v := v4) (own := p) h3.1 h3.2
theorem Wc {n d : Int} (hd : 0 < d) : o0 rl n d ↔ 0 ≤ n ∧ n ≤ d := by
 unfold o0 q6 q8 rl;simp;omega
theorem G5 {bY v1 b0 v2 gf v3 iE v4 n d : Int} {o p : Bool} (hd : 0 < d) : o0 (ry bY v1 b0 v2 gf v3 iE v4 o p) n d ↔ (0 ≤ n ∧ n ≤ d) ∧ iW bY v1 o n d ∧ iW b0 v2 o n d ∧ iW gf v3 p n d ∧ iW iE v4 p n d := by
 unfold ry;have h1 := rU (p := rl) (u := bY) (v := v1) (own := o) (by decide) (by decide);have h2 := rU (u := b0) (v := v2) (own := o) h1.1 h1.2;have h3 := rU (u := gf) (v := v3) (own := p) h2.1 h2.2;rw [D7 h3.1 h3.2 hd, D7 h2.1 h2.2 hd, D7 h1.1 h1.2 hd, D7 (by decide) (by decide) hd, Wc hd];simp only [and_assoc]
def Met (bY v1 b0 v2 gf v3 iE v4 : Int) (o p : Bool) : Prop := ∃ n d, 0 < d ∧ (0 ≤ n ∧ n ≤ d) ∧ iW bY v1 o n d ∧ iW b0 v2 o n d ∧ iW gf v3 p n d ∧ iW iE v4 p n d
theorem XE (bY v1 b0 v2 gf v3 iE v4 : Int) (o p : Bool) : tT (ry bY v1 b0 v2 gf v3 iE v4 o p) = true ↔ Met bY v1 b0 v2 gf v3 iE v4 o p := by
 obtain ⟨h1, h2⟩ := G4 bY v1 b0 v2 gf v3 iE v4 o p;rw [L3 h1 h2]
 constructor
 ·rintro ⟨n, d, hd, h⟩; exact ⟨n, d, hd, (G5 hd).1 h⟩
 ·rintro ⟨n, d, hd, h⟩; exact ⟨n, d, hd, (G5 hd).2 h⟩
def w8 (X Y W a1 a2 b1 b2 : Int) : Prop := ∃ n d, 0 < d ∧ (0 ≤ n ∧ n ≤ d) ∧ X * d = W * (a1 * (d - n) + b1 * n) ∧ Y * d = W * (a2 * (d - n) + b2 * n)
theorem Ro {p1 p2 a1 a2 b1 b2 : Int} (h : c3 p1 p2 a1 a2 b1 b2) : w8 p1 p2 1 a1 a2 b1 b2 := by
 obtain ⟨aA, h1, h2, h3, aD⟩ := h;unfold bW at aA;unfold fG at h1 h3;unfold fF at h2 aD;rcases Int.lt_trichotomy a1 b1 with g | g | g
 ·rw [if_neg (by omega)] at h1; rw [if_pos (show b1 > a1 from g)] at h2;exact ⟨p1 - a1, b1 - a1, by omega, by omega, by grind, by grind⟩
 ·subst g;rcases Int.lt_trichotomy a2 b2 with g | g | g
  ·rw [if_neg (by omega)] at h3; rw [if_pos (show b2 > a2 from g)] at aD;have : p1 = a1 := by split at h1 <;> split at h2 <;> omega
   exact ⟨p2 - a2, b2 - a2, by omega, by omega, by grind, by grind⟩
  ·subst g;have aG : p1 = a1 := by split at h1 <;> split at h2 <;> omega
   have aO : p2 = a2 := by split at h3 <;> split at aD <;> omega
   exact ⟨0, 1, by omega, by omega, by grind, by grind⟩
  ·rw [if_pos g] at h3; rw [if_neg (by omega)] at aD;have : p1 = a1 := by split at h1 <;> split at h2 <;> omega
   exact ⟨a2 - p2, a2 - b2, by omega, by omega, by grind, by grind⟩
 ·rw [if_pos g] at h1; rw [if_neg (by omega)] at h2;exact ⟨a1 - p1, a1 - b1, by omega, by omega, by grind, by grind⟩
theorem Kx {v W : Int} (dT : 0 < W) (h : 0 ≤ v * W) : 0 ≤ v := by
 refine Int.not_lt.1 fun bb => ?_;have := Int.mul_lt_mul_of_pos_right bb dT;omega
theorem ahZ {v W : Int} (dT : 0 < W) (h : 0 < v * W) : 0 < v := by
 refine Int.not_le.1 fun hle => ?_;have := lK hle (show 0 ≤ W by omega);omega
theorem Sq {X Y W a1 a2 b1 b2 l1 l2 h1 h2 : Int} (dT : 0 < W) (h : w8 X Y W a1 a2 b1 b2) (g1 : l1 * W ≤ 2 * X) (g2 : l2 * W ≤ 2 * Y) (g3 : 2 * X < h1 * W) (g4 : 2 * Y < h2 * W) :
  Met (2 * a1 - l1) (2 * b1 - l1) (2 * a2 - l2) (2 * b2 - l2) (h1 - 2 * a1) (h1 - 2 * b1) (h2 - 2 * a2) (h2 - 2 * b2) true false := by
 obtain ⟨n, d, hd, aw, aG, aO⟩ := h
 have low : ∀ {X a b l : Int}, X * d = W * (a * (d - n) + b * n) → l * W ≤ 2 * X → iW (2 * a - l) (2 * b - l) true n d := fun {X a b l} e g => by
  have k := ga (show 0 ≤ d by omega) (show 0 ≤ 2 * X - l * W by omega);have bm : ((2 * a - l) * (d - n) + (2 * b - l) * n) * W = d * (2 * X - l * W) := by grind
  rw [← bm] at k;rcases Int.lt_or_eq_of_le (Kx dT k) with h | h
  ·exact .inl h
  ·exact .inr ⟨rfl, h.symm⟩
 have high : ∀ {X a b l : Int}, X * d = W * (a * (d - n) + b * n) → 2 * X < l * W → iW (l - 2 * a) (l - 2 * b) false n d := fun {X a b l} e g => by
  have k := Int.mul_pos hd (show 0 < l * W - 2 * X by omega);have bm : ((l - 2 * a) * (d - n) + (l - 2 * b) * n) * W = d * (l * W - 2 * X) := by grind
  rw [← bm] at k;exact .inl (ahZ dT k)
 exact ⟨n, d, hd, aw, low aG g1, low aO g2, high aG g3, high aO g4⟩
theorem Sp {X Y W a1 a2 b1 b2 : Int} (h : w8 X Y W a1 a2 b1 b2) : (b1 - a1) * (Y - a2 * W) = (b2 - a2) * (X - a1 * W) := by
 obtain ⟨n, d, hd, aw, aG, aO⟩ := h;have : d * ((b1 - a1) * (Y - a2 * W) - (b2 - a2) * (X - a1 * W)) = 0 := by grind
 rcases tr.1 this with h | h
 ·omega
 ·omega
theorem Qi {a1 a2 b1 b2 c1 c2 d1 d2 X Y W bk : Int} (h : c7 a1 a2 b1 b2 c1 c2 d1 d2 ≠ 0) (e : mb a1 a2 b1 b2 c1 c2 d1 d2 = hJ X W Y bk) : bk = W ∧ 0 < W ∧ w8 X Y W c1 c2 d1 d2 := by
 obtain ⟨_, b7⟩ := TT h;unfold mb tg at e
 split at e
 ·rename_i aD;obtain ⟨_, _, ba, bo⟩ := aD;have aG := congrArg fp.n e;have aO := congrArg fp.d e;have cl := congrArg fp.m e;have ey := congrArg fp.e e;simp only [hJ] at aG aO cl ey;have vO := JD a1 a2 b1 b2 c1 c2 d1 d2;have xG := JE a1 a2 b1 b2 c1 c2 d1 d2;have hw := KP a1 a2 b1 b2 c1 c2 d1 d2;rw [← aO, ← ey];refine ⟨rfl, Q3 h, ?_⟩;rw [sF] at ba bo;unfold ix at aG cl ba bo;unfold hI at ba bo ⊢
  by_cases hs : c7 a1 a2 b1 b2 c1 c2 d1 d2 < 0
  ·rw [if_pos hs] at aG cl ba bo ⊢;rw [if_pos hs] at ba bo
   have := (CD (x := d1) (y := c1) (u := d2) (v := c2) (A := -bW a1 a2 b1 b2 d1 d2) (B := -bW a1 a2 b1 b2 c1 c2) (D := -c7 a1 a2 b1 b2 c1 c2 d1 d2) (by omega) (by omega) (by omega)).1 ⟨by
    rw [show c1 * -bW a1 a2 b1 b2 d1 d2 - d1 * -bW a1 a2 b1 b2 c1 c2 = -jY a1 a2 b1 b2 c1 c2 d1 d2 by grind]; exact ba, by
    rw [show c2 * -bW a1 a2 b1 b2 d1 d2 - d2 * -bW a1 a2 b1 b2 c1 c2 = -jZ a1 a2 b1 b2 c1 c2 d1 d2 by grind]; exact bo⟩
   exact ⟨bW a1 a2 b1 b2 c1 c2, -c7 a1 a2 b1 b2 c1 c2 d1 d2, by omega, by omega, by rw [← aG]; grind, by rw [← cl]; grind⟩
  ·rw [if_neg hs] at aG cl ba bo ⊢;rw [if_neg hs] at ba bo
   have := (CD (x := d1) (y := c1) (u := d2) (v := c2) (A := bW a1 a2 b1 b2 d1 d2) (B := bW a1 a2 b1 b2 c1 c2) (D := c7 a1 a2 b1 b2 c1 c2 d1 d2) (by omega) (by omega) (by omega)).1 ⟨by
    rw [vO]; exact ba, by
    rw [xG]; exact bo⟩
   exact ⟨-bW a1 a2 b1 b2 c1 c2, c7 a1 a2 b1 b2 c1 c2 d1 d2, by omega, by omega, by rw [← aG]; grind, by rw [← cl]; grind⟩
 ·have := congrArg fp.k e;simp [fH, hJ] at this
theorem AR {a1 a2 b1 b2 c1 c2 d1 d2 X Y W bk : Int} (e : gU a1 a2 b1 b2 c1 c2 d1 d2 = hJ X W Y bk) : bk = W ∧ 0 < W ∧ w8 X Y W a1 a2 b1 b2 ∧ w8 X Y W c1 c2 d1 d2 ∧ (∀ p1 p2, c3 p1 p2 a1 a2 b1 b2 → c3 p1 p2 c1 c2 d1 d2 → X = p1 * W ∧ Y = p2 * W) := by
 unfold gU at e
 split at e
 ·rename_i hw;unfold uD inl at e
  split at e
  ·rename_i z6;obtain ⟨o1, o2⟩ := z6;unfold s8 at e
   split at e
   ·rename_i xN;have aG := congrArg fp.n e;have aO := congrArg fp.d e;have cl := congrArg fp.m e;have ey := congrArg fp.e e;simp only [hJ] at aG aO cl ey;subst aO; subst ey;rw [wH] at o1 o2;rw [aG, cl] at o1 o2;refine ⟨rfl, by decide, Ro o1, Ro o2, fun p1 p2 hp ak => ?_⟩
    have aaK : oG (dF a1 a2 b1 b2) (dk a1 a2 b1 b2) (dy a1 a2 b1 b2) (dj a1 a2 b1 b2) (dF c1 c2 d1 d2) (dk c1 c2 d1 d2) (dy c1 c2 d1 d2) (dj c1 c2 d1 d2) = 0 := by
     rw [FV] at hw;rcases jW a1 a2 b1 b2 with ⟨h1, h2, h3, aD, _⟩ | ⟨h1, h2, h3, aD, _⟩ <;> rcases jW c1 c2 d1 d2 with ⟨ba, bo, dU, hU, _⟩ | ⟨ba, bo, dU, hU, _⟩ <;> rw [h1, h2, h3, aD, ba, bo, dU, hU] <;> unfold oG at hw ⊢ <;> grind
    obtain ⟨_, _, _, _, l1, l2⟩ := Jj (uF a1 a2 b1 b2) (uF c1 c2 d1 d2) aaK (wH.2 hp) (wH.2 ak);rw [← xN.1, ← xN.2] at l2;have := c5.xh l1 l2;omega
   ·have := congrArg fp.k e;simp [o5, hJ] at this
  ·have := congrArg fp.k e;simp [fH, hJ] at this
 ·rename_i hw;obtain ⟨g1, g2, g3⟩ := Qi hw e;have pq : c7 c1 c2 d1 d2 a1 a2 b1 b2 ≠ 0 := by rw [FW]; omega
  obtain ⟨_, _, g4⟩ := Qi pq (by rw [ac5 hw]; exact e);refine ⟨g1, g2, g4, g3, fun p1 p2 hp ak => ?_⟩;have l1 := Sp g4;have l2 := Sp g3;have q1 := hp.1;have q2 := ak.1;unfold bW at q1 q2
  have line : ∀ {a1 a2 b1 b2 : Int}, (b1 - a1) * (Y - a2 * W) = (b2 - a2) * (X - a1 * W) → (b1 - a1) * (p2 - a2) - (b2 - a2) * (p1 - a1) = 0 → (b1 - a1) * (Y - p2 * W) = (b2 - a2) * (X - p1 * W) := fun {a1 a2 b1 b2} l q => by
   have z : (b1 - a1) * (Y - p2 * W) - (b2 - a2) * (X - p1 * W) = ((b1 - a1) * (Y - a2 * W) - (b2 - a2) * (X - a1 * W)) - ((b1 - a1) * (p2 - a2) - (b2 - a2) * (p1 - a1)) * W := by grind
   rw [q, l, Int.zero_mul] at z;omega
  have m1 := line l1 q1;have m2 := line l2 q2
  have e2 : c7 a1 a2 b1 b2 c1 c2 d1 d2 * (X - p1 * W) = 0 := by
   have z : c7 a1 a2 b1 b2 c1 c2 d1 d2 * (X - p1 * W) = (b1 - a1) * ((d2 - c2) * (X - p1 * W)) - (d1 - c1) * ((b2 - a2) * (X - p1 * W)) := by unfold c7; grind
   rw [z, ← m1, ← m2, Int.mul_left_comm];omega
  have z2 : c7 a1 a2 b1 b2 c1 c2 d1 d2 * (Y - p2 * W) = 0 := by
   have z : c7 a1 a2 b1 b2 c1 c2 d1 d2 * (Y - p2 * W) = (d2 - c2) * ((b1 - a1) * (Y - p2 * W)) - (b2 - a2) * ((d1 - c1) * (Y - p2 * W)) := by unfold c7; grind
   rw [z, m1, m2, Int.mul_left_comm];omega
  have iG := (tr.1 e2).resolve_left hw;have ob := (tr.1 z2).resolve_left hw;omega
def yS (S : Int) (p q x : Int × Int) : Prop := Met (2 * (S * p.1) - (2 * (S * x.1) - S)) (2 * (S * q.1) - (2 * (S * x.1) - S)) (2 * (S * p.2) - (2 * (S * x.2) - S)) (2 * (S * q.2) - (2 * (S * x.2) - S)) (2 * (S * x.1) + S - 2 * (S * p.1)) (2 * (S * x.1) + S - 2 * (S * q.1)) (2 * (S * x.2) + S - 2 * (S * p.2)) (2 * (S * x.2) + S - 2 * (S * q.2)) true false
def vo (S X Y W : Int) (x : Int × Int) : Prop := ((2 * (S * x.1) - S) * W ≤ 2 * X ∧ 2 * X < (2 * (S * x.1) + S) * W) ∧ (2 * (S * x.2) - S) * W ≤ 2 * Y ∧ 2 * Y < (2 * (S * x.2) + S) * W
abbrev Lk (S : Int) (x p q : Int × Int) : Prop := c3 (S * x.1) (S * x.2) (S * p.1) (S * p.2) (S * q.1) (S * q.2)
theorem Rl (S : Int) (p q : Int × Int) : Lk S p p q := by
 refine ⟨CJ .., ?_⟩;unfold pu fG fF
 split <;> split <;> split <;> split <;> omega
theorem Rm (S : Int) (p q : Int × Int) : Lk S q p q := by
 refine ⟨G2 .., ?_⟩;unfold pu fG fF
 split <;> split <;> split <;> split <;> omega
theorem ac8 {S : Int} (hS : 0 < S) {p q e1 cf x : Int × Int} {X Y W bk : Int} (e : gU (S * p.1) (S * p.2) (S * q.1) (S * q.2) (S * e1.1) (S * e1.2) (S * cf.1) (S * cf.2) = hJ X W Y bk) (aa : vo S X Y W x) (h1 : yS S p q x → x = p ∨ x = q) (h2 : yS S e1 cf x → x = e1 ∨ x = cf) :
  (x = p ∨ x = q) ∧ (x = e1 ∨ x = cf) ∧ X = S * x.1 * W ∧ Y = S * x.2 * W := by
 obtain ⟨_, dT, g1, g2, g3⟩ := AR e;obtain ⟨⟨b1, b2⟩, ee, dO⟩ := aa;have ba := h1 (Sq dT g1 b1 ee b2 dO);have bo := h2 (Sq dT g2 b1 ee b2 dO);refine ⟨ba, bo, g3 _ _ ?_ ?_⟩
 ·rcases ba with rfl | rfl
  ·exact Rl ..
  ·exact Rm ..
 ·rcases bo with rfl | rfl
  ·exact Rl ..
  ·exact Rm ..
end Go.Proofs.YtbcecodakfejaaaGreat
namespace Go.Proofs.YtbcecodakfejaaaGreat.br
abbrev jv := Int × Int
abbrev Qh (S : Int) (l m : jv × jv) : fp := gU (S * l.1.1) (S * l.1.2) (S * l.2.1) (S * l.2.2) (S * m.1.1) (S * m.1.2) (S * m.2.1) (S * m.2.2)
def y2 (l m : jv × jv) : Prop := l.1 = m.1 ∨ l.1 = m.2 ∨ l.2 = m.1 ∨ l.2 = m.2
structure yZ (S : Int) (o : cw jv) : Prop where
 pos : 0 < S
 aai : ∀ p q x, o.qy p q x = true → yS S p q x
 OP : ∀ p q x, o.gP p → o.gP q → o.gP x → yS S p q x → o.qy p q x = true
 M4 : ∀ l m x, o.cut l m = some x → ¬ y2 l m ∧ ∃ X Y W bk, Qh S l m = hJ X W Y bk ∧ vo S X Y W x
 XD : ∀ l m, o.gP l.1 → o.gP l.2 → o.gP m.1 → o.gP m.2 → o.cut l m = none → (Qh S l m).k = 1 → y2 l m
theorem yZ.own {S : Int} {o : cw jv} (h : yZ S o) {hot : List jv} (an : ∀ y ∈ hot, o.gP y) {p q x : jv} (hp : p ∈ hot) (ak : q ∈ hot) (aa : x ∈ hot) (hs : sw o hot p q) (hm : yS S p q x) : x = p ∨ x = q := by
 have h1 := hs x aa;have h2 := h.OP p q x (an _ hp) (an _ ak) (an _ aa) hm;unfold hB at h1;rw [h2, Bool.and_true, Bool.and_eq_false_iff] at h1;rcases h1 with h1 | h1
 ·exact .inl (by simpa using h1)
 ·exact .inr (by simpa using h1)
theorem yZ.XG {S : Int} {o : cw jv} (h : yZ S o) (hot : List jv) (p q e1 cf x : jv) (an : ∀ y ∈ hot, o.gP y) (hp : p ∈ hot) (ak : q ∈ hot) (nP : e1 ∈ hot) (nc : cf ∈ hot) (hs : sw o hot p q) (DJ : sw o hot e1 cf) (aj : o.cut (p, q) (e1, cf) = some x) : x ∉ hot := fun aa => by
 obtain ⟨aw, X, Y, W, bk, e, gB⟩ := h.M4 _ _ _ aj;obtain ⟨g1, g2, _⟩ := ac8 h.pos e gB (h.own an hp ak aa hs) (h.own an nP nc aa DJ);refine aw ?_;unfold y2;rcases g1 with rfl | rfl <;> rcases g2 with g2 | g2
 ·exact .inl g2
 ·exact .inr (.inl g2)
 ·exact .inr (.inr (.inl g2))
 ·exact .inr (.inr (.inr g2))
end Go.Proofs.YtbcecodakfejaaaGreat.br
namespace Go.Proofs.YtbcecodakfejaaaGreat
theorem abx {S X Y W : Int} (hS : 0 < S) (dT : 0 < W) {x y : Int × Int} (aa : vo S X Y W x) (ai : vo S X Y W y) : x = y := by
 have key : ∀ {Z a b : Int}, (2 * (S * a) - S) * W ≤ 2 * Z → 2 * Z < (2 * (S * b) + S) * W → a ≤ b := fun {Z a b} h1 h2 => by
  refine Int.not_lt.1 fun bb => ?_;have k := lK (pO (show b + 1 ≤ a by omega) (show 0 ≤ S by omega)) (show 0 ≤ W by omega);have aG : (2 * (S * a) - S) * W = 2 * (S * a * W) - S * W := by grind
  have aO : (2 * (S * b) + S) * W = 2 * (S * b * W) + S * W := by grind
  have cl : S * (b + 1) * W = S * b * W + S * W := by grind
  have := Int.mul_pos hS dT;omega
 obtain ⟨⟨a1, a2⟩, a3, a4⟩ := aa;obtain ⟨⟨b1, b2⟩, ee, dO⟩ := ai;exact ku (r5 (key a1 b2) (key b1 a2)) (r5 (key a3 dO) (key ee a4))
def gE (S X W : Int) : Int := (2 * X + S * W) / (2 * (S * W))
theorem E8 {S W : Int} (hS : 0 < S) (dT : 0 < W) (X : Int) : (2 * (S * gE S X W) - S) * W ≤ 2 * X ∧ 2 * X < (2 * (S * gE S X W) + S) * W := by
 have Zm := Int.mul_pos hS dT;unfold gE;have h1 := qS (2 * X + S * W) (2 * (S * W));have h2 := oL (2 * X + S * W) (show 2 * (S * W) ≠ 0 by omega);have h3 := n4 (2 * X + S * W) (show 0 < 2 * (S * W) by omega);generalize (2 * X + S * W) / (2 * (S * W)) = g at *;generalize (2 * X + S * W) % (2 * (S * W)) = m at *;have aG : (2 * (S * g) - S) * W = 2 * (S * W) * g - S * W := by grind
 have aO : (2 * (S * g) + S) * W = 2 * (S * W) * g + S * W := by grind
 omega
theorem aby {S X Y W : Int} (hS : 0 < S) (dT : 0 < W) : vo S X Y W (gE S X W, gE S Y W) := ⟨E8 hS dT X, E8 hS dT Y⟩
theorem SC {S X W n d p q g : Int} (hS : 0 < S) (dT : 0 < W) (hd : 0 < d) (aw : 0 ≤ n ∧ n ≤ d) (e : X * d = W * (S * p * (d - n) + S * q * n)) (h1 : (2 * (S * g) - S) * W ≤ 2 * X) (h2 : 2 * X < (2 * (S * g) + S) * W) : (p ≤ q → p ≤ g ∧ g ≤ q) ∧ (q ≤ p → q ≤ g ∧ g ≤ p) := by
 have Zm := Int.mul_pos hS dT
 have acY : ∀ {b : Int}, b ≤ p → b ≤ q → S * W * b ≤ X := fun {b} ba bo => by
  have m1 := ga (show 0 ≤ S * W by omega) (ga (show 0 ≤ p - b by omega) (show 0 ≤ d - n by omega));have m2 := ga (show 0 ≤ S * W by omega) (ga (show 0 ≤ q - b by omega) aw.1);have bm : (X - S * W * b) * d = S * W * ((p - b) * (d - n)) + S * W * ((q - b) * n) := by grind
  have := Kx (v := X - S * W * b) hd (by rw [bm]; omega);omega
 have aah : ∀ {b : Int}, p ≤ b → q ≤ b → X ≤ S * W * b := fun {b} ba bo => by
  have m1 := ga (show 0 ≤ S * W by omega) (ga (show 0 ≤ b - p by omega) (show 0 ≤ d - n by omega));have m2 := ga (show 0 ≤ S * W by omega) (ga (show 0 ≤ b - q by omega) aw.1);have bm : (S * W * b - X) * d = S * W * ((b - p) * (d - n)) + S * W * ((b - q) * n) := by grind
  have := Kx (v := S * W * b - X) hd (by rw [bm]; omega);omega
 have low : ∀ {b : Int}, b ≤ p → b ≤ q → b ≤ g := fun {b} ba bo => by
  have vO := acY ba bo;refine Int.not_lt.1 fun bb => ?_;have m := pO (show g + 1 ≤ b by omega) (show 0 ≤ S * W by omega);have aO : (2 * (S * g) + S) * W = 2 * (S * W * (g + 1)) - S * W := by grind
  omega
 have high : ∀ {b : Int}, p ≤ b → q ≤ b → g ≤ b := fun {b} ba bo => by
  have vO := aah ba bo;refine Int.not_lt.1 fun bb => ?_;have m := pO (show b + 1 ≤ g by omega) (show 0 ≤ S * W by omega);have aG : (2 * (S * g) - S) * W = 2 * (S * W * g) - S * W := by grind
  have cl : S * W * (b + 1) = S * W * b + S * W := by grind
  omega
 exact ⟨fun h => ⟨low (oI _) h, high h (oI _)⟩, fun h => ⟨low h (oI _), high (oI _) h⟩⟩
def eX (lt : Int × Int → Int × Int → Bool) : List (Int × Int) → List (Int × Int) → List (Int × Int)
 | [], b => b
 | x :: a, [] => x :: a
 | x :: a, y :: b => if lt y x then y :: eX lt (x :: a) b else x :: eX lt a (y :: b)
termination_by a b => a.length + b.length
theorem Jz (lt : Int × Int → Int × Int → Bool) (a : List (Int × Int)) : eX lt a [] = a := by cases a <;> simp [eX]
theorem adq (lt : Int × Int → Int × Int → Bool) (a : List (Int × Int)) : eX lt [] a = a := by simp [eX]
theorem Jy (lt : Int × Int → Int × Int → Bool) : ∀ a b, (eX lt a b).length = a.length + b.length := by
 intro a b
 induction a, b using eX.induct lt with
 | case1 b => simp [eX]
 | case2 x a => simp [eX]
 | case3 x a y b h b9 => rw [eX, if_pos h, jj, b9]; simp; omega
 | case4 x a y b h b9 => rw [eX, if_neg h, jj, b9]; simp; omega
def jo (lt : Int × Int → Int × Int → Bool) (l : List (Int × Int)) : List (Int × Int) :=
 if h : l.length < 2 then l else eX lt (jo lt (l.take (l.length / 2))) (jo lt (l.drop (l.length / 2)))
termination_by l.length
decreasing_by all_goals (simp; omega)
theorem FH (lt : Int × Int → Int × Int → Bool) : ∀ (N : Nat) (l : List (Int × Int)), l.length ≤ N → (jo lt l).length = l.length
 | 0, l, h => by rw [jo, dif_pos (by omega)]
 | N + 1, l, h => by
  rw [jo]
  split
  ·rfl
  ·rw [Jy, FH lt N _ (by simp; omega), FH lt N _ (by simp; omega)];simp; omega
end Go.Proofs.YtbcecodakfejaaaGreat
namespace Go.Proofs.YtbcecodakfejaaaGreat
open Go.RowKit
structure nz where
 v : Value
 n : Nat
 xs : List Value
section
variable {P : Program} {B q7 : eL} {A ea : Nat → Prop} {s s' : aC} {ad : Nat → Nat} {a : Act} {w w' : World}
theorem Rel.vz (h : Rel B A s ad a w) (dx : ∀ b, A b → b < w.heap.size → ea b ∧ w'.heap[b]? = w.heap[b]?) (cy : ∀ k cs, s.mem k = some cs → w'.heap[ad k]? = w.heap[ad k]? ∧ ¬ q7.F (ad k)) (ZC : jr q7 w') (IK : ∀ b, q7.W.heap.size ≤ b → ea b) (nI : sg q7 s ad) (vW : q7.marks = B.marks := by rfl) : Rel q7 ea s ad a w' := by
 have Ox : ∀ b, s.free A ad b → b < w.heap.size → s.free ea ad b ∧ w'.heap[b]? = w.heap[b]? := fun b ab hl => ⟨⟨(dx b ab.1 hl).1, ab.2⟩, (dx b ab.1 hl).2⟩;refine ⟨h.qL.trans vW.symm, h.size, fun t av aB => ?_, fun k cs af => ?_, h.inj, ZC, IK, nI⟩
 ·obtain ⟨v, h1, h2⟩ := h.hz t av aB;exact ⟨v, h1, h2.map Ox fun _ _ => rfl⟩
 ·obtain ⟨vs, ty, h1, h2, h3⟩ := h.dz k cs af;exact ⟨vs, ty, by rw [(cy k cs af).1]; exact h1, h2.map Ox fun _ _ _ _ => rfl, (cy k cs af).2⟩
theorem Rel.Kc {d : Nat} {av bv : ah} (h : Rel B A s ad a w) (hd : s.tmps d = some bv) (hv : ∀ v, a.tmps[d]? = some v → de (s.free A ad) ad w bv v → de (s.free A ad) ad w av v) : Rel B A (s.put (some d) av) ad a w := by
 refine ⟨h.qL, h.size, fun t cv aB => ?_, h.dz, h.inj, h.below, h.up, h.j8⟩;simp only [aC.put] at aB
 by_cases e : t = d
 ·subst e;rw [cF] at aB;cases aB;obtain ⟨v, h1, h2⟩ := h.hz t bv hd;exact ⟨v, h1, hv v h1 h2⟩
 ·rw [ct _ _ e] at aB;exact h.hz t cv aB
def lv (B : eL) (s : aC) (ad : Nat → Nat) (w : World) : eL := ⟨w, fun b => b < w.heap.size ∧ ∀ k cs, s.mem k = some cs → ad k ≠ b, fun _ h => h.1, fun k => if s.n ≤ k then some (ad k) else none, B.marks⟩
theorem vQ {B : eL} (s : aC) (ad : Nat → Nat) (w : World) : sg (lv B s ad w) s ad := fun k b af => by
 simp only [lv] at af
 split at af
 ·rename_i h; exact ⟨h, lc af⟩
 ·cases af
theorem L4 {a8 : eL} {s s' : aC} {ad aX : Nat → Nat} {w w' : World} {A : Nat → Prop} {a' : Act} (h : sg a8 s ad) (b6 : Rel (lv a8 s ad w) A s' aX a' w') : sg a8 s' aX := fun k b af => by
 obtain ⟨h1, h2⟩ := h k b af;obtain ⟨h3, aD⟩ := b6.j8 k (ad k) (by simp [lv, h1]);exact ⟨h3, aD.trans h2⟩
theorem Rel.hot (h : Rel B A s ad a w) (IK : ∀ b, w.heap.size ≤ b → A b) : Rel (lv B s ad w) A s ad a w :=
 h.vz (fun b h _ => ⟨h, rfl⟩) (fun k cs af => ⟨rfl, fun ap => ap.2 k cs af rfl⟩) (jr.refl _) IK (vQ _ _ _)
theorem JP {base : Nat} {e : TypeId} {sz : Nat} {v : Value} {n : Nat} {xs : List Value} (h : w.ownsRow base e sz v n xs) (an : ∀ g, v.ownBlock = some g → w'.heap[g]? = w.heap[g]?) : w'.ownsRow base e sz v n xs := by
 refine ⟨h.1, ?_⟩;rcases h.2 with aw | ⟨g, cap, cur, rfl, ab, qw, rest⟩
 ·exact .inl aw
 ·exact .inr ⟨g, cap, cur, rfl, ab, (an g rfl).trans qw, rest⟩
end
def lR (a8 : eL) (bq : Nat → Prop) (e sz : Nat) (t : nz) (s : aC) (a : Act) (w : World) : Prop :=
 ∃ A ad, (∀ b, A b → bq b) ∧ Rel (lv a8 s ad w) A s ad a w ∧ (∀ k cs, s.mem k = some cs → ¬ a8.F (ad k)) ∧ jr a8 w ∧ w.ownsRow a8.W.heap.size e sz t.v t.n t.xs ∧ (∀ g, t.v.ownBlock = some g → ¬ A g ∧ ∀ k cs, s.mem k = some cs → ad k ≠ g) ∧ (∀ u ∈ t.xs, u.oneCell' = true) ∧ sg a8 s ad
def od (P : Program) (e sz : Nat) (c : Code) (Q : Exit → nz → aC → Prop) (t : nz) (s : aC) : Prop :=
 s.cQ → ∀ (a8 : eL) bq a w, (∀ b, a8.W.heap.size ≤ b → bq b) → lR a8 bq e sz t s a w → kA P c (fun x a' w' => ∃ gd s', s'.cQ ∧ lR a8 bq e sz gd s' a' w' ∧ Q x gd s') a w
def DO (next : nz → aC → Prop) (Q : Exit → nz → aC → Prop) : Exit → nz → aC → Prop
 | .normal, t, s => next t s
 | e, t, s => Q e t s
def HY (id : Nat) (Q : Exit → nz → aC → Prop) : Exit → nz → aC → Prop
 | .exit l7, t, s => bif Nat.beq l7 id then Q .normal t s else Q (.exit l7) t s
 | e, t, s => Q e t s
section
variable {P : Program} {e sz : Nat} {t : nz} {s : aC} {Q : Exit → nz → aC → Prop} {x y c : Code}
theorem lR.le {a8 : eL} {bq : Nat → Prop} {s' : aC} {a : Act} {w : World} (h : lR a8 bq e sz t s a w) (l : s.aK s') : lR a8 bq e sz t s' a w := by
 obtain ⟨A, ad, dn, aq, cy, ab, az, an, h1, nI⟩ := h;exact ⟨A, ad, dn, (aq.le l).hot aq.up, fun k cs af => cy k cs (l.dz k cs af), ab, az, fun g q => ⟨(an g q).1, fun k cs af => (an g q).2 k cs (l.dz k cs af)⟩, h1, fun k b af => by rw [l.n]; exact nI k b af⟩
theorem lR.next {a8 : eL} {bq A : Nat → Prop} {ad aX : Nat → Nat} {a' : Act} {w w' : World} {s' : aC} (dn : ∀ b, A b → bq b) (cy : ∀ k cs, s.mem k = some cs → ¬ a8.F (ad k)) (ab : jr a8 w) (az : w.ownsRow a8.W.heap.size e sz t.v t.n t.xs) (an : ∀ g, t.v.ownBlock = some g → ¬ A g ∧ ∀ k cs, s.mem k = some cs → ad k ≠ g) (h1 : ∀ u ∈ t.xs, u.oneCell' = true) (nI : sg a8 s ad)
  (b6 : Rel (lv a8 s ad w) A s' aX a' w') : lR a8 bq e sz t s' a' w' := by
 have xK : ∀ k cs, s'.mem k = some cs → w.heap.size ≤ aX k ∨ ∃ j cs, s.mem j = some cs ∧ ad j = aX k := by
  intro k cs af;obtain ⟨_, _, _, _, hF⟩ := b6.dz k cs af;rcases gK (aX k) w.heap.size with hl | hl
  ·exact .inr (Classical.byContradiction fun aw => hF ⟨hl, fun j cs ae e => aw ⟨j, cs, ae, e⟩⟩)
  ·exact .inl hl
 refine ⟨A, aX, dn, b6.hot fun b h => b6.up b (ht b6.below.size h), fun k cs af ap => ?_, ⟨b6.below.os.trans ab.os, b6.below.tape.trans ab.tape, b6.below.output.trans ab.output, ht ab.size b6.below.size, fun b ap => ?_⟩, JP az fun g q => ?_, fun g q => ⟨(an g q).1, fun k cs af he => ?_⟩, h1, L4 nI b6⟩
 ·rcases xK k cs af with h | ⟨j, ar, ae, e⟩
  ·have := a8.lt _ ap; have := ab.size; omega
  ·rw [← e] at ap; exact cy j ar ae ap
 ·exact (b6.below.block b ⟨qQ (a8.lt b ap) ab.size, fun k cs af e => cy k cs af (by rw [e]; exact ap)⟩).trans (ab.block b ap)
 ·exact b6.below.block g ⟨(az.lt g q).2, (an g q).2⟩
 ·rcases xK k cs af with h | ⟨j, ar, ae, e⟩
  ·have := (az.lt g q).2; omega
  ·exact (an g q).2 j ar ae (e.trans he)
theorem rS (h : fg P c (fun x s' => Q x t s') s) : od P e sz c Q t s := by
 intro ok a8 bq a w up ⟨A, ad, dn, aq, cy, ab, az, an, h1, nI⟩;refine nw (h ok (lv a8 s ad w) A ad a w aq) ?_;rintro x a' w' ⟨s', aX, cX, b6, ak⟩;exact ⟨t, s', cX, lR.next dn cy ab az an h1 nI b6, ak⟩
theorem uA (h : od P e sz x (DO (fun t s => od P e sz y Q t s) Q) t s) : od P e sz (.seq x y) Q t s := by
 intro ok a8 bq a w up cq;refine KU (nw (h ok a8 bq a w up cq) ?_);rintro x a' w' ⟨gd, s', cX, iL, ak⟩;cases x <;> first | exact ak cX a8 bq a' w' up iL | exact ⟨gd, s', cX, iL, ak⟩
theorem IR {id : Nat} (h : od P e sz x (HY id Q) t s) : od P e sz (.block id x) Q t s := by
 intro ok a8 bq a w up cq;refine KQ (nw (h ok a8 bq a w up cq) ?_);rintro x a' w' ⟨gd, s', cX, iL, ak⟩;cases x with
 | exit l7 =>
  simp only [Exit.inBlock];simp only [HY] at ak;cases ab : Nat.beq l7 id with
  | true => rw [ab] at ak; rw [if_pos (gL ab)]; exact ⟨gd, s', cX, iL, ak⟩
  | false =>
   rw [ab] at ak;have : l7 ≠ id := fun e => by subst e; rw [Nat.beq_refl] at ab; cases ab
   rw [if_neg this]; exact ⟨gd, s', cX, iL, ak⟩
 | _ => exact ⟨gd, s', cX, iL, ak⟩
theorem abf {c : Operand} {b : Bool} (aj : s.look c = some (a7 b)) (h1 : b = true → od P e sz x Q t s) (aA : b = false → od P e sz y Q t s) : od P e sz (.cond c x y) Q t s := by
 intro ok a8 bq a w up cq;obtain ⟨A, ad, dn, aq, _⟩ := id cq;have hv : a.eval c = .bool b := (aq.look aj).1;refine KR hv ?_;cases b with
 | true => exact h1 rfl ok a8 bq a w up cq
 | false => exact aA rfl ok a8 bq a w up cq
theorem abg (N : Nat) (I : Nat → nz → List (Nat × ah) → List (Nat × List AC) → Prop) (k : Nat) (aL : List (Nat × ah)) (bh : List (Nat × List AC)) (bl : I k t aL bh) (aw : N = s.n) (aB : ms s.tmps aL) (hm : ms s.mem bh) (c9 : okB aL bh = true)
  (round : ∀ k t aL bh, I k t aL bh → okB aL bh = true → od P e sz x (DO (fun gd s' => ∃ k' lN lE, k' < k ∧ I k' gd lN lE ∧ N = s'.n ∧ ms s'.tmps lN ∧ ms s'.mem lE ∧ okB lN lE = true) Q) t (rZ N aL bh)) : od P e sz (.loop x) Q t s := by
 intro ok a8 bq a w up cq;refine KS (fun k a w => ∃ t aL bh, I k t aL bh ∧ okB aL bh = true ∧ lR a8 bq e sz t (rZ N aL bh) a w) (n := k) ⟨t, aL, bh, bl, c9, cq.le (ya aw aB hm)⟩ ?_;rintro k a w ⟨t, aL, bh, bl, ok, cq⟩;refine nw (round k t aL bh bl ok (Ej ok) a8 bq a w up cq) ?_;rintro x a' w' ⟨gd, s', cX, iL, ak⟩;cases x with
 | normal =>
  obtain ⟨k', lN, lE, h1, h2, h3, aD, cU, fs⟩ := ak;exact ⟨k', h1, gd, lN, lE, h2, fs, iL.le (ya h3 aD cU)⟩
 | _ => exact ⟨gd, s', cX, iL, ak⟩
theorem WW {Q : Exit → aC → Prop} (e sz : Nat) (h : od P e sz c (fun x t s' => ∃ d, s'.tmps d = some (aQ t.v) ∧ Q x (s'.put (some d) (cK sz t.n (t.xs.map .c)))) ⟨.slice none 0 0, 0, []⟩ s) : fg P c Q s := by
 intro ok B A ad a w aq;have cq : lR B A e sz ⟨.slice none 0 0, 0, []⟩ s a w := ⟨A, ad, fun _ h => h, aq.hot fun b h => aq.up b (ht aq.below.size h), fun k cs af => (aq.dz k cs af).choose_spec.choose_spec.2.2, aq.below, World.ownsRow_nil w B.W.heap.size e sz, fun g an => (by cases an), fun u hu => (by cases hu), aq.j8⟩;refine nw (h ok B A a w aq.up cq) ?_;rintro x a' w' ⟨gd, s', cX, ⟨gZ, eK, Y8, vN, aaI, dt, DH, zQ, aaC, Zv⟩, d, hd, ak⟩;refine ⟨_, eK, cX.put fun j ae => absurd ae (lF _ j), ?_, ak⟩;have rJ : Rel B A s' eK a' w' := vN.vz (fun b ab _ => ⟨Y8 b ab, rfl⟩) (fun k cs af => ⟨rfl, aaI k cs af⟩) dt aq.up Zv;refine rJ.Kc hd fun v hk lz => ?_;obtain ⟨rfl, Db⟩ := lz;obtain ⟨hl, aw | ⟨g, cap, cur, jd, nJ, rN, ez, jb, eb, mA⟩⟩ := DH
 ·obtain ⟨aG, aO⟩ := aw;rw [aG];exact ⟨⟨none, 0, by rw [aO], by omega, by simpa using hl, fun h => absurd h (by omega)⟩, fun b ⟨c', a', q, aw, ab⟩ => by cases q⟩
 ·have kK : ∀ (j : Nat) u, gd.xs[j]? = some u → w'.cell? ((⟨g, 0, none⟩ : Addr).add j) = some u := World.ownsRow.cells ⟨hl, .inr ⟨g, cap, cur, jd, nJ, rN, ez, jb, eb, mA⟩⟩ (by rw [jd]; rfl);have qw := (zQ g (by rw [jd]; rfl)).2;rw [jd];refine ⟨⟨some ⟨g, 0, none⟩, cap, rfl, ez, by simpa using hl, fun aw => ⟨⟨g, 0, none⟩, gd.xs, rfl, (j2.1 rN).1, ⟨by simp, fun i y v ai hv => ?_⟩, kK, fun y ai => ?_⟩⟩, ?_⟩
  ·rw [dL, hv] at ai;cases ai;exact ⟨rfl, aaC v (dc hv)⟩
  ·obtain ⟨v, _, rfl⟩ := gV.1 ai;rfl
  ·rintro b ⟨c', a', q, aw, ap⟩;cases q;rcases ap with rfl | ⟨j, y, v, ai, hv, gl⟩
   ·exact ⟨aq.up _ nJ, qw⟩
   ·rw [dL] at ai;cases nc : gd.xs[j]? with
    | none => rw [nc] at ai; cases ai
    | some u => rw [nc] at ai; cases ai; cases gl
theorem Kj (w : World) (base : Nat) (t ty e : TypeId) (i : TypeInfo) (z : Value) (size bytes : Nat) (aB : P.underlying t = some (.slice e)) (hi : P.info? e = some i) (aN : i.zero = some z)
  (hj : i.size = size) (kH : i.bytes = bytes) (nV : z.cells.size = size) (bH : 0 < size)
  (v : Value) (n : Nat) (xs : List Value) (cy : w.ownsRow base e size v n xs)
  (a : Addr) (m c : Nat) (news : List Value) (hl : news.length = m * size) (kJ : ∀ j u, news[j]? = some u → w.cell? (a.add j) = some u) (h1 : ∀ u ∈ news, u.oneCell' = true)
  (HD : n + m ≤ maxLen) (H2 : (n + m) * bytes ≤ 140737488355328) (lv : base ≤ w.heap.size) (hm : 0 < m) :
  ∃ v' w', (Builtin.append_ #[t, t] ty #[v, .slice (some a) m c]).run P w = .ok v' w' ∧ w'.ownsRow base e size v' (n + m) (xs ++ news) ∧ w.grownBy w' v.ownBlock ∧ (∀ g, v'.ownBlock = some g → v.ownBlock = some g ∨ w.heap.size ≤ g) ∧ v'.oneCell' = true := by
 obtain ⟨v', w', al, h2, h3, aD⟩ := run_append_own (P := P) w base t ty e i z size bytes aB hi aN hj kH nV bH v n xs cy a m c news hl kJ h1 HD H2 lv;refine ⟨v', w', al, h2, h3, ?_, ?_⟩
 ·have akN : n + m ≤ 9223372036854775807 := by simp only [maxLen] at HD; omega
  rcases cy.2 with ⟨rfl, rfl⟩ | ⟨g, cap, cur, rfl, nJ, an, ez, jb, eb, mA⟩
  ·have aa : xs = [] := ks (by simpa using cy.1);subst aa;have := run_append_nil (P := P) w t ty e i z aB hi aN a m c news (by rw [hj]; exact hl) kJ hm (by omega) (by rw [kH]; simp only [j3] at H2; omega);rw [this] at al;cases al;intro g an;simp [Value.ownBlock] at an;exact .inr (by omega)
  ·by_cases my : n + m ≤ cap
   ·have xO : n * i.size + news.length ≤ cur.size := by rw [hj, hl, eb, ← kS]; exact kT _ my
    have := run_append_room (P := P) w t ty e i aB hi g n cap cur an a m c news (by rw [hj]; exact hl) kJ h1 my xO;rw [this] at al;cases al;intro jP ec;exact .inl ec
   ·have holds : ∀ j u, xs[j]? = some u → w.cell? ((⟨g, 0, none⟩ : Addr).add j) = some u := cy.cells (g := g) rfl;have := run_append_grow (P := P) w t ty e i z aB hi aN ⟨g, 0, none⟩ n cap xs (by rw [hj]; exact cy.1) holds a m c news (by rw [hj]; exact hl) kJ (by omega) (by omega) (growslice_fits (by omega) (by rw [kH]; exact H2));rw [this] at al;cases al;intro jP ec;simp [Value.ownBlock] at ec;exact .inr (by omega)
 ·rcases h2.2 with ⟨rfl, _⟩ | ⟨g, cap, cur, rfl, _⟩ <;> rfl
theorem GA {ro : Option Nat} {B : eL} {A : Nat → Prop} {ops : Array Oper} {K : aC → Prop} {Q : Exit → Act → World → Prop} {r : List Nat} (kd : ∀ s' aX a' w', s'.cQ → Rel B A s' aX a' w' → K s' → wpOpsIn (lW ro) 0 P ops Q r a' w') : ∀ (l : List Oper) (k : Nat) (s : aC) (ad : Nat → Nat) (a : Act) (w : World), (∀ (j : Nat), j < l.length → l[j]? = ops[k + j]?) → s.cQ → Rel B A s ad a w →
  bg P ops K l s → wpOpsIn (lW ro) 0 P ops Q ((List.range l.length).map (k + ·) ++ r) a w
 | [], _, _, _, _, _, _, ok, aq, h => kd _ _ _ _ ok aq h
 | o :: l, k, s, ad, a, w, hl, ok, aq, h => by
  have aA : ops[k]? = some o := by simpa using (hl 0 (by simp)).symm
  have e : (List.range (o :: l).length).map (k + ·) = k :: (List.range l.length).map (k + 1 + ·) := by
   rw [jj, List.range_succ_eq_map, jJ, List.map_map];congr 1;apply np;intro j _;simp [pM, oK 1 j]
  rw [e, List.cons_append, wpOpsIn_cons];refine GB aA ok aq h fun s' aX a' w' cX b6 af => GA kd l (k + 1) s' aX a' w' (fun j ae => by have := hl (j + 1) (by simp; omega); simpa [pM, oK 1 j] using this) cX b6 af
def wO (P : Program) (tt e sz bytes : Nat) : Bool := match P.underlying tt, P.info? e with
 | some (.slice bm), some i => match i.zero with
  | some z => Nat.beq bm e && Nat.beq i.size sz && Nat.beq i.bytes bytes && Nat.beq z.cells.size sz && Nat.blt 0 sz
  | none => false
 | _, _ => false
class lm (P : Program) (tt : TypeId) (e sz bytes : outParam Nat) : Prop where
 h : wO P tt e sz bytes = true
theorem qW {tt e sz bytes : Nat} (h : wO P tt e sz bytes = true) : ∃ (i : TypeInfo) (z : Value), P.underlying tt = some (.slice e) ∧ P.info? e = some i ∧ i.zero = some z ∧ i.size = sz ∧ i.bytes = bytes ∧ z.cells.size = sz ∧ 0 < sz := by
 unfold wO at h
 split at h
 ·rename_i bm i hu hi
  split at h
  ·rename_i z aN;simp only [c6] at h;obtain ⟨⟨⟨⟨h1, h2⟩, h3⟩, aD⟩, cU⟩ := h;rw [gL h1] at hu;exact ⟨i, z, hu, hi, aN, gL h2, gL h3, gL aD, by simpa [Nat.blt_eq] using cU⟩
  ·cases h
 ·cases h
theorem lR.ru {a8 : eL} {bq : Nat → Prop} {a : Act} {w : World} {tt ty bytes m d : Nat} {fK eR : Operand} {news : List Value} [R : lm P tt e sz bytes] (up : ∀ b, a8.W.heap.size ≤ b → bq b) (cq : lR a8 bq e sz t s a w) (hd : d < s.n) (DN : s.look fK = some (aQ t.v)) (IV : s.look eR = some (cK sz m (news.map .c))) (DE : 0 < m ∨ 0 < t.n) (pj : ∀ u ∈ news, u.oneCell' = true) (Im : t.n + m ≤ maxLen) (H0 : (t.n + m) * bytes ≤ 140737488355328) :
  ∃ v' w2, (Builtin.append_ #[tt, tt] ty #[a.eval fK, a.eval eR]).run P w = .ok v' w2 ∧ v'.oneCell' = true ∧ lR a8 bq e sz ⟨v', t.n + m, t.xs ++ news⟩ (s.put (some d) (aQ v')) (a.put (some d) v') w2 := by
 obtain ⟨i, z, aB, hi, aN, hj, kH, nV, bH⟩ := qW R.h;obtain ⟨A, ad, dn, aq, cy, ab, az, an, h1, nI⟩ := cq;have hk : a.eval fK = t.v := (aq.look DN).1;have Ar := (aq.look DN).2;obtain ⟨⟨si, vF, ex, zJ, kf, HE⟩, Oy⟩ := aq.look IV;rcases tq m with rfl | vX
 ·have aw : 0 < t.n := by rcases DE with h | h; exact absurd h (Nat.lt_irrefl _); exact h
  have kJ : news = [] := by
   have := kf;simp at this;exact this
  subst kJ;refine ⟨t.v, w, ?_, Ar, A, ad, dn, aq.put (dst := some d) (fun d' e => by cases e; exact hd) ⟨rfl, Ar⟩, cy, ab, by simpa using az, an, by simpa using h1, nI⟩;rw [hk, ex];rcases az.2 with ⟨_, aA⟩ | ⟨g, cap, cur, hv, nJ, qw, ez, jb, eb, mA⟩
  ·omega
  ·rw [hv];cases si with
   | none => simp [Builtin.append_, run_underlying aB, sizeOf, typeInfo, hi, Builtin.lenOf, Builtin.firstCells, ez, storeCells]
   | some Cv => simp [Builtin.append_, run_underlying aB, sizeOf, typeInfo, hi, Builtin.lenOf, Builtin.firstCells, ez, storeCells, loadCells, loadCellsFrom]
 ·obtain ⟨Cv, vs, rfl, eb⟩ := HE vX
  have cW : vs = news := by
   apply List.ext_getElem?;intro j;have l5 := eb.lL.1;simp at l5;rcases gK j news.length with ae | ae
   ·have h2 := eb.lL.2 j (.c news[j]) (vs[j]'(by omega)) (by simp [ae]) (bN _);rw [bN (by omega : j < vs.length), bN ae, h2.1]
   ·rw [lJ ae, lJ (by omega)]
  subst cW;obtain ⟨v', w2, fW, qA, gA, kG, kK⟩ := Kj (P := P) w a8.W.heap.size tt ty e i z sz bytes aB hi aN hj kH nV bH t.v t.n t.xs az Cv m vF vs (by simpa using kf) eb.at_ pj Im H0 ab.size vX;refine ⟨v', w2, by rw [hk, ex]; exact fW, kK, fun b => (A b ∧ b < w.heap.size) ∨ w2.heap.size ≤ b, ad, ?_, ?_, cy, ⟨gA.os.trans ab.os, gA.tape.trans ab.tape, gA.output.trans ab.output, ht ab.size gA.size, fun b ap => ?_⟩, qA, fun g ec => ⟨?_, fun k cs af => ?_⟩, ?_, nI⟩
  ·rintro b (h | h)
   ·exact dn b h.1
   ·exact up b (by have := ab.size; have := gA.size; omega)
  ·have zz : Rel (lv a8 s ad w2) (fun b => (A b ∧ b < w.heap.size) ∨ w2.heap.size ≤ b) s ad a w2 :=
    aq.vz (fun b cL e6 => ⟨.inl ⟨cL, e6⟩, gA.block b e6 fun e => (an b e.symm).1 cL⟩) (fun k cs af => ⟨gA.block _ (aq.lt af) fun e => (an _ e.symm).2 k cs af rfl, fun ap => ap.2 k cs af rfl⟩) (jr.refl _) (fun b h => .inr h) (vQ _ _ _)
   exact zz.put (dst := some d) (fun d' e => by cases e; exact hd) ⟨rfl, kK⟩
  ·refine (gA.block b (qQ (a8.lt b ap) ab.size) fun e => ?_).trans (ab.block b ap);have := (az.lt b e.symm).1;have := a8.lt b ap;omega
  ·rintro (h | h)
   ·rcases kG g ec with q | q
    ·exact (an g q).1 h.1
    ·omega
   ·have := (qA.lt g ec).2;omega
  ·rcases kG g ec with q | q
   ·exact (an g q).2 k cs af
   ·have := aq.lt af;omega
  ·intro u hu;rcases h0.1 hu with q | q
   ·exact h1 u q
   ·exact pj u q
def CK : Nat → List Oper → Option (List Oper × List Oper)
 | 0, l => some ([], l)
 | k + 1, o :: l => match CK k l with
  | some (a, b) => some (o :: a, b)
  | none => none
 | _ + 1, [] => none
theorem M6 : ∀ (k : Nat) (l a b : List Oper), CK k l = some (a, b) → l = a ++ b
 | 0, l, a, b, h => by cases h; rfl
 | k + 1, [], a, b, h => by cases h
 | k + 1, o :: l, a, b, h => by
  simp only [CK] at h
  split at h
  ·rename_i a' bE aj;cases h;have := M6 k l _ _ aj;rw [this];rfl
  ·cases h
theorem abe {ahe k : Nat} {l l1 l2 : List Oper} {d : Nat} {fK eR : Operand} {tt ty : Nat} {pos : String} {after : Array Edge} {bytes : Nat} [R : lm P tt e sz bytes]
  (hcut : CK k l = some (l1, ⟨some d, .call ⟨.builtin .append, #[fK, eR], #[tt, tt]⟩, ty, pos, after, none⟩ :: l2))
  (h : bg P l.toArray (fun s1 => d < s1.n ∧ s1.look fK = some (aQ t.v) ∧ ∃ m news, s1.look eR = some (cK sz m (news.map .c)) ∧ (0 < m ∨ 0 < t.n) ∧ (∀ u ∈ news, u.oneCell' = true) ∧ t.n + m ≤ maxLen ∧ (t.n + m) * bytes ≤ 140737488355328 ∧
   ∀ v', v'.oneCell' = true → bg P l.toArray (fun s' => Q .normal ⟨v', t.n + m, t.xs ++ news⟩ s') l2 (s1.put (some d) (aQ v'))) l1 s) : od P e sz (.region ahe l.toArray false) Q t s := by
 intro ok a8 bq a w up ⟨A, ad, dn, aq, cy, ab, az, an, h1, nI⟩;have hl := M6 _ _ _ _ hcut;refine KT fun ro => ?_;have hlen : l.length = l1.length + (l2.length + 1) := by rw [hl]; simp
 have al : List.range l.toArray.size = (List.range l1.length).map (0 + ·) ++ (l1.length :: (List.range l2.length).map (l1.length + 1 + ·)) := by
  rw [List.size_toArray, hlen, List.range_add];congr 1
  ·simp
  ·rw [List.range_succ_eq_map, jJ, List.map_map];congr 1;apply np;intro j _;simp [pM, oK 1 j]
 rw [al];refine GA ?_ l1 0 s ad a w (fun j ae => by rw [hl]; simp [fZ ae]) ok aq h;rintro s1 eK a1 w1 aej vN ⟨hd, DN, m, news, IV, DE, pj, Im, H0, wb⟩;have aay : l.toArray[l1.length]? = some ⟨some d, .call ⟨.builtin .append, #[fK, eR], #[tt, tt]⟩, ty, pos, after, none⟩ := by rw [hl]; simp
 rw [wpOpsIn_cons];unfold wpOpIn;rw [aay];simp only [Region.wanted, if_true];refine Oper.KY ?_ (fun c aj => by cases aj);obtain ⟨v', w2, fW, kK, Zf⟩ := lR.ru (P := P) (tt := tt) (bytes := bytes) (ty := ty) (d := d) up (lR.next dn cy ab az an h1 nI vN) hd DN IV DE pj Im H0;refine Oper.vd (v := v') (w' := w2) ?_ ?_
 ·simp only [execOp, resolve, invoke, builtin, Sem.run_bind, Sem.run_pure, Result.andThen_ok, List.map_toArray, jJ, List.map_nil, fW]
 obtain ⟨lg, wZ, zz, rJ, aaJ, di, qA, zR, zy, Zw⟩ := Zf;have aek : (s1.put (some d) (aQ v')).cQ := aej.put fun j ae => absurd ae (jf _ j);have := GA (ro := ro) (P := P) (ops := l.toArray) (r := []) (Q := fun x a' w' => ∃ gd s', s'.cQ ∧ lR a8 bq e sz gd s' a' w' ∧ Q x gd s') (fun s' aX a' w' cX b6 af => ⟨⟨v', t.n + m, t.xs ++ news⟩, s', cX, lR.next (t := ⟨v', t.n + m, t.xs ++ news⟩) zz aaJ di qA zR zy Zw b6, af⟩) l2 (l1.length + 1) _ wZ _ w2 (fun j ae => by rw [hl]; simp [gM, pM, oK 1 j]) aek rJ (wb v' kK);simpa using this
theorem po {next : nz → aC → Prop} (h : next t s) : DO next Q .normal t s := h
theorem Pj {next : nz → aC → Prop} {i : Nat} (h : Q (.exit i) t s) : DO next Q (.exit i) t s := h
theorem HZ {i : Nat} (h : Q .normal t s) : HY i Q .normal t s := h
end
end Go.Proofs.YtbcecodakfejaaaGreat
