/-
  My own texts, without what this claim does not need. My own text.
-/
import Derived.Laws.AppendOwn
import Derived.Test.YtbcecodakfejaaaGreatSNodedK3
set_option maxRecDepth 100000
set_option maxHeartbeats 64000000
set_option linter.unusedVariables false
set_option linter.unusedSimpArgs false
set_option linter.unusedSectionVars false
namespace Go.Proofs.YtbcecodakfejaaaGreat
def bA (x y : Int) : Bool := decide (x ≤ 134217728) && decide (y ≤ 134217728) && decide (-134217728 ≤ x) && decide (-134217728 ≤ y)
theorem k8 {x y : Int} : bA x y = true ↔ (-134217728 ≤ x ∧ x ≤ 134217728) ∧ -134217728 ≤ y ∧ y ≤ 134217728 := by
  unfold bA;simp only [dc, cq];omega
def cM (a1 a2 b1 b2 : Int) : Prop := a1 < b1 ∨ (a1 = b1 ∧ a2 ≤ b2)
instance (a1 a2 b1 b2 : Int) : Decidable (cM a1 a2 b1 b2) := by unfold cM; exact inferInstance
theorem cM.Ag {a1 a2 : Int} : cM a1 a2 a1 a2 := .inr ⟨rfl, n7 _⟩
theorem cM.trans {a1 a2 b1 b2 c1 c2 : Int} (h : cM a1 a2 b1 b2) (k : cM b1 b2 c1 c2) : cM a1 a2 c1 c2 := by unfold cM at *; omega
theorem cM.total (a1 a2 b1 b2 : Int) : cM a1 a2 b1 b2 ∨ cM b1 b2 a1 a2 := by unfold cM; omega
theorem cM.wy {a1 a2 b1 b2 : Int} (h : cM a1 a2 b1 b2) (k : cM b1 b2 a1 a2) : a1 = b1 ∧ a2 = b2 := by unfold cM at *; omega
def qL (p1 p2 a1 a2 b1 b2 : Int) : Prop := fU a1 b1 ≤ p1 ∧ p1 ≤ fT a1 b1 ∧ fU a2 b2 ≤ p2 ∧ p2 ≤ fT a2 b2
theorem KF {s1 s2 t1 t2 p1 p2 : Int} (iW : cM s1 s2 t1 t2) (aj : bW s1 s2 t1 t2 p1 p2 = 0) : qL p1 p2 s1 s2 t1 t2 ↔ cM s1 s2 p1 p2 ∧ cM p1 p2 t1 t2 := by
  unfold bW at aj;have oE : (t1 - s1) * (p2 - s2) = (t2 - s2) * (p1 - s1) := by omega
  unfold qL fU fT cM at *
  by_cases h1 : s1 = t1
  · subst h1
    have e : (t2 - s2) * (p1 - s1) = 0 := by rw [← oE]; simp
    rcases sD.1 e with e | e
    · constructor
      · intro h; split at h <;> (try split at h) <;> (try split at h) <;> (try split at h) <;> omega
      · intro h; split <;> (try split) <;> (try split) <;> (try split) <;> omega
    · constructor
      · intro h; split at h <;> (try split at h) <;> (try split at h) <;> (try split at h) <;> omega
      · intro h; split <;> (try split) <;> (try split) <;> (try split) <;> omega
  · have h2 : s1 < t1 := by omega
    have hd : 0 < t1 - s1 := by omega
    rw [if_neg (show ¬ t1 < s1 by omega), if_pos (show t1 > s1 by omega)]
   
    have key : s1 ≤ p1 → p1 ≤ t1 → (if t2 < s2 then t2 else s2) ≤ p2 ∧ p2 ≤ (if t2 > s2 then t2 else s2) := by
      intro bl bJ
      by_cases g : t2 < s2
      · rw [if_pos g, if_neg (by omega)]
        have a1 : (t2 - s2) * (t1 - s1) ≤ (t2 - s2) * (p1 - s1) := Int.mul_le_mul_of_nonpos_left (by omega) (by omega);have a2 : (t2 - s2) * (p1 - s1) ≤ 0 := Int.mul_nonpos_of_nonpos_of_nonneg (by omega) (by omega);rw [← oE] at a1 a2;rw [hA (t2 - s2)] at a1;have b1 := Int.le_of_mul_le_mul_left a1 hd
        have b2 : p2 - s2 ≤ 0 := by
          have : (t1 - s1) * (p2 - s2) ≤ (t1 - s1) * 0 := by omega
          exact Int.le_of_mul_le_mul_left this hd
        omega
      · rw [if_neg g]
        have a1 : (t2 - s2) * (p1 - s1) ≤ (t2 - s2) * (t1 - s1) := pY (by omega) (by omega);have a2 : 0 ≤ (t2 - s2) * (p1 - s1) := gM (by omega) (by omega);rw [← oE] at a1 a2;rw [hA (t2 - s2)] at a1;have b1 := Int.le_of_mul_le_mul_left a1 hd
        have b2 : 0 ≤ p2 - s2 := by
          have : (t1 - s1) * 0 ≤ (t1 - s1) * (p2 - s2) := by omega
          exact Int.le_of_mul_le_mul_left this hd
        split <;> omega
    constructor
    · rintro ⟨bl, bJ, e6, gH⟩
      constructor
      · by_cases g : s1 < p1
        · exact .inl g
        · right
          have : p1 = s1 := by omega
          subst this;have : (t1 - p1) * (p2 - s2) = 0 := by rw [oE]; simp
          rcases sD.1 this with e | e <;> omega
      · by_cases g : p1 < t1
        · exact .inl g
        · right
          have : p1 = t1 := by omega
          subst this;rw [hA (t2 - s2)] at oE;have := Int.eq_of_mul_eq_mul_left (show p1 - s1 ≠ 0 by omega) oE;omega
    · rintro ⟨bl, bJ⟩
      have Hh : s1 ≤ p1 := by omega
      have Hi : p1 ≤ t1 := by omega
      exact ⟨Hh, Hi, (key Hh Hi).1, (key Hh Hi).2⟩
def cG (p1 p2 s1 s2 t1 t2 : Int) : Prop := bW s1 s2 t1 t2 p1 p2 = 0 ∧ qL p1 p2 s1 s2 t1 t2
theorem vH {s1 s2 t1 t2 p1 p2 : Int} (iW : cM s1 s2 t1 t2) : cG p1 p2 s1 s2 t1 t2 ↔ bW s1 s2 t1 t2 p1 p2 = 0 ∧ cM s1 s2 p1 p2 ∧ cM p1 p2 t1 t2 := by
  unfold cG
  constructor
  · rintro ⟨h, k⟩; exact ⟨h, (KF iW h).1 k⟩
  · rintro ⟨h, k⟩; exact ⟨h, (KF iW h).2 k⟩
theorem BK (a1 a2 b1 b2 : Int) : bW a1 a2 b1 b2 a1 a2 = 0 := by unfold bW; grind
theorem Ft (a1 a2 b1 b2 : Int) : bW a1 a2 b1 b2 b1 b2 = 0 := by unfold bW; grind
theorem tS {s1 s2 t1 t2 : Int} (iW : cM s1 s2 t1 t2) : cG s1 s2 s1 s2 t1 t2 := (vH iW).2 ⟨BK .., .Ag, iW⟩
theorem tR {s1 s2 t1 t2 : Int} (iW : cM s1 s2 t1 t2) : cG t1 t2 s1 s2 t1 t2 := (vH iW).2 ⟨Ft .., iW, .Ag⟩
theorem zX {p1 p2 s1 s2 : Int} (h : cG p1 p2 s1 s2 s1 s2) : p1 = s1 ∧ p2 = s2 := by
  obtain ⟨_, h1, h2⟩ := (vH cM.Ag).1 h;have := cM.wy h1 h2; omega
def mL (s1 s2 bC bE t1 t2 t3 t4 : Int) : Int := (bC - s1) * (t4 - t2) - (bE - s2) * (t3 - t1)
theorem tU {s1 s2 bC bE t1 t2 t3 t4 p1 p2 b6 cD : Int} (hs : cM s1 s2 bC bE) (aB : cM t1 t2 t3 t4) (hw : mL s1 s2 bC bE t1 t2 t3 t4 = 0)
    (ps : cG p1 p2 s1 s2 bC bE) (o0 : cG p1 p2 t1 t2 t3 t4) (sH : cG b6 cD s1 s2 bC bE) (gN : cM t1 t2 b6 cD) (aeB : cM b6 cD t3 t4) : cG b6 cD t1 t2 t3 t4 := by
  by_cases hd : s1 = bC ∧ s2 = bE
  · obtain ⟨rfl, rfl⟩ := hd
    obtain ⟨rfl, rfl⟩ := zX ps;obtain ⟨rfl, rfl⟩ := zX sH;exact o0
  · refine (vH aB).2 ⟨?_, gN, aeB⟩
    have a := ps.1;have b := o0.1;have c := sH.1;unfold bW mL at *;have d1 : (bC - s1) * ((t3 - t1) * (cD - t2) - (t4 - t2) * (b6 - t1)) = 0 := by grind
    have d2 : (bE - s2) * ((t3 - t1) * (cD - t2) - (t4 - t2) * (b6 - t1)) = 0 := by grind
    rcases sD.1 d1 with e | e
    · rcases sD.1 d2 with f | f
      · omega
      · exact f
    · exact e
theorem KH {x y A B D : Int} (eK : 0 < D) (e : D = A - B) : (fU x y * D ≤ y * A - x * B ∧ y * A - x * B ≤ fT x y * D) ↔ (x = y ∨ (B ≤ 0 ∧ 0 ≤ A)) := by
  subst e;unfold fU fT
  by_cases h : x = y
  · subst h
    have : x * (A - B) = x * A - x * B := Int.mul_sub ..;simp [this]
  · have pos : ∀ {u v : Int}, 0 < u → (0 ≤ u * v ↔ 0 ≤ v) := by
      intro u v hu
      constructor
      · intro k
        have k' : u * 0 ≤ u * v := by omega
        exact Int.le_of_mul_le_mul_left k' hu
      · intro k; exact gM (by omega) k
    by_cases g : x < y
    · rw [if_neg (by omega), if_pos (show y > x from g)]
      have hu : 0 < y - x := by omega
      have aF : y * A - x * B - x * (A - B) = (y - x) * A := by grind
      have aM : y * (A - B) - (y * A - x * B) = (y - x) * (-B) := by grind
      have p1 := pos (v := A) hu;have p2 := pos (v := -B) hu;omega
    · rw [if_pos (by omega), if_neg (by omega)]
      have hu : 0 < x - y := by omega
      have aF : x * (A - B) - (y * A - x * B) = (x - y) * A := by grind
      have aM : y * A - x * B - y * (A - B) = (x - y) * (-B) := by grind
      have p1 := pos (v := A) hu;have p2 := pos (v := -B) hu;omega
def kd (n d a b : Int) : Prop := fU a b * d ≤ n ∧ n ≤ fT a b * d
theorem BB {x y u v A B D : Int} (eK : 0 < D) (e : D = A - B) (bU : ¬ (x = y ∧ u = v)) : (kd (y * A - x * B) D x y ∧ kd (v * A - u * B) D u v) ↔ (B ≤ 0 ∧ 0 ≤ A) := by
  unfold kd;rw [KH eK e, KH eK e];omega
theorem rJ {n d a b : Int} : kd n d a b ↔ kd n d b a := by
  unfold kd fU fT
  by_cases h : a = b
  · subst h; rfl
  · by_cases g : a < b
    · rw [if_neg (by omega), if_pos (show b > a from g), if_pos g, if_neg (by omega)]
    · rw [if_pos (show b < a by omega), if_neg (by omega), if_neg g, if_pos (by omega)]
structure eI where
  k : Int
  n : Int
  d : Int
  m : Int
  e : Int
  p1 : Int
  p2 : Int
  q1 : Int
  q2 : Int
def e7 : eI := ⟨0, 0, 0, 0, 0, 0, 0, 0, 0⟩
def gl (n d m e : Int) : eI := ⟨1, n, d, m, e, 0, 0, 0, 0⟩
def kc (p1 p2 q1 q2 : Int) : eI := ⟨2, 0, 0, 0, 0, p1, p2, q1, q2⟩
def hW (n d : Int) : Int := if d < 0 then -n else n
def hy (d : Int) : Int := if d < 0 then -d else d
theorem qW {d : Int} (h : d ≠ 0) (n : Int) : hW (-n) (-d) = hW n d := by unfold hW; split <;> split <;> omega
theorem zV (d : Int) : hy (-d) = hy d := by unfold hy; split <;> split <;> omega
theorem O9 {d : Int} (h : d ≠ 0) : 0 < hy d := by unfold hy; split <;> omega
def jr (a1 a2 b1 b2 c1 c2 d1 d2 : Int) : Int := ((b2 - a2) * a1 + (a1 - b1) * a2) * (c1 - d1) - (a1 - b1) * ((d2 - c2) * c1 + (c1 - d1) * c2)
def js (a1 a2 b1 b2 c1 c2 d1 d2 : Int) : Int := (b2 - a2) * ((d2 - c2) * c1 + (c1 - d1) * c2) - ((b2 - a2) * a1 + (a1 - b1) * a2) * (d2 - c2)
def cT (a1 a2 b1 b2 c1 c2 d1 d2 : Int) : Int := (b2 - a2) * (c1 - d1) - (a1 - b1) * (d2 - c2)
theorem AL (a1 a2 b1 b2 c1 c2 d1 d2 : Int) : cT a1 a2 b1 b2 c1 c2 d1 d2 = mL a1 a2 b1 b2 c1 c2 d1 d2 := by unfold cT mL; grind
section
variable (a1 a2 b1 b2 c1 c2 d1 d2 : Int)
theorem AK : cT b1 b2 a1 a2 c1 c2 d1 d2 = - cT a1 a2 b1 b2 c1 c2 d1 d2 := by unfold cT; grind
theorem vW : cT a1 a2 b1 b2 d1 d2 c1 c2 = - cT a1 a2 b1 b2 c1 c2 d1 d2 := by unfold cT; grind
theorem xU : cT c1 c2 d1 d2 a1 a2 b1 b2 = - cT a1 a2 b1 b2 c1 c2 d1 d2 := by unfold cT; grind
theorem abA : jr b1 b2 a1 a2 c1 c2 d1 d2 = - jr a1 a2 b1 b2 c1 c2 d1 d2 := by unfold jr; grind
theorem abB : jr a1 a2 b1 b2 d1 d2 c1 c2 = - jr a1 a2 b1 b2 c1 c2 d1 d2 := by unfold jr; grind
theorem OO : jr c1 c2 d1 d2 a1 a2 b1 b2 = - jr a1 a2 b1 b2 c1 c2 d1 d2 := by unfold jr; grind
theorem abC : js b1 b2 a1 a2 c1 c2 d1 d2 = - js a1 a2 b1 b2 c1 c2 d1 d2 := by unfold js; grind
theorem abD : js a1 a2 b1 b2 d1 d2 c1 c2 = - js a1 a2 b1 b2 c1 c2 d1 d2 := by unfold js; grind
theorem OP : js c1 c2 d1 d2 a1 a2 b1 b2 = - js a1 a2 b1 b2 c1 c2 d1 d2 := by unfold js; grind
theorem HM : c1 * bW a1 a2 b1 b2 d1 d2 - d1 * bW a1 a2 b1 b2 c1 c2 = jr a1 a2 b1 b2 c1 c2 d1 d2 := by unfold jr bW; grind
theorem HN : c2 * bW a1 a2 b1 b2 d1 d2 - d2 * bW a1 a2 b1 b2 c1 c2 = js a1 a2 b1 b2 c1 c2 d1 d2 := by unfold js bW; grind
theorem I7 : bW a1 a2 b1 b2 d1 d2 - bW a1 a2 b1 b2 c1 c2 = cT a1 a2 b1 b2 c1 c2 d1 d2 := by unfold cT bW; grind
end
def four (a1 a2 b1 b2 c1 c2 d1 d2 x y d : Int) : Prop := kd x d a1 b1 ∧ kd y d a2 b2 ∧ kd x d c1 d1 ∧ kd y d c2 d2
instance (n d a b : Int) : Decidable (kd n d a b) := by unfold kd; exact inferInstance
instance (a1 a2 b1 b2 c1 c2 d1 d2 x y d : Int) : Decidable (four a1 a2 b1 b2 c1 c2 d1 d2 x y d) := by unfold four; exact inferInstance
theorem tH {α : Type} {p q : Prop} [Decidable p] [Decidable q] {a b : α} (h : p ↔ q) : (if p then a else b) = if q then a else b := by
  by_cases k : p
  · rw [if_pos k, if_pos (h.1 k)]
  · rw [if_neg k, if_neg fun g => k (h.2 g)]
def pS (a1 a2 b1 b2 c1 c2 d1 d2 x y d : Int) : eI := if four a1 a2 b1 b2 c1 c2 d1 d2 x y d then gl x d y d else e7
def kG (a1 a2 b1 b2 c1 c2 d1 d2 : Int) : eI :=
  pS a1 a2 b1 b2 c1 c2 d1 d2 (hW (jr a1 a2 b1 b2 c1 c2 d1 d2) (cT a1 a2 b1 b2 c1 c2 d1 d2)) (hW (js a1 a2 b1 b2 c1 c2 d1 d2) (cT a1 a2 b1 b2 c1 c2 d1 d2)) (hy (cT a1 a2 b1 b2 c1 c2 d1 d2))
theorem aaV {a1 a2 b1 b2 c1 c2 d1 d2 : Int} (h : cT a1 a2 b1 b2 c1 c2 d1 d2 ≠ 0) : kG b1 b2 a1 a2 c1 c2 d1 d2 = kG a1 a2 b1 b2 c1 c2 d1 d2 := by
  unfold kG;rw [AK, abA, abC, qW h, qW h, zV];unfold pS four;exact tH (by rw [rJ (a := b1), rJ (a := b2)])
theorem aaW {a1 a2 b1 b2 c1 c2 d1 d2 : Int} (h : cT a1 a2 b1 b2 c1 c2 d1 d2 ≠ 0) : kG a1 a2 b1 b2 d1 d2 c1 c2 = kG a1 a2 b1 b2 c1 c2 d1 d2 := by
  unfold kG;rw [vW, abB, abD, qW h, qW h, zV];unfold pS four;exact tH (by rw [rJ (a := d1), rJ (a := d2)])
theorem Om {a1 a2 b1 b2 c1 c2 d1 d2 : Int} (h : cT a1 a2 b1 b2 c1 c2 d1 d2 ≠ 0) : kG c1 c2 d1 d2 a1 a2 b1 b2 = kG a1 a2 b1 b2 c1 c2 d1 d2 := by
  unfold kG;rw [xU, OO, OP, qW h, qW h, zV];unfold pS four;refine tH ?_
  constructor
  · rintro ⟨h1, h2, an, aE⟩; exact ⟨an, aE, h1, h2⟩
  · rintro ⟨h1, h2, an, aE⟩; exact ⟨an, aE, h1, h2⟩
def same (m n : Int) : Prop := (0 < m ∧ 0 < n) ∨ (m < 0 ∧ n < 0)
instance (m n : Int) : Decidable (same m n) := by unfold same; exact inferInstance
theorem RW {a1 a2 b1 b2 c1 c2 d1 d2 : Int} (h : cT a1 a2 b1 b2 c1 c2 d1 d2 ≠ 0) : ¬ (a1 = b1 ∧ a2 = b2) ∧ ¬ (c1 = d1 ∧ c2 = d2) := by
  refine ⟨?_, ?_⟩
  · rintro ⟨rfl, rfl⟩; apply h; unfold cT; simp
  · rintro ⟨rfl, rfl⟩; apply h; unfold cT; simp
theorem Rv {a1 a2 b1 b2 c1 c2 d1 d2 : Int} (h : cT a1 a2 b1 b2 c1 c2 d1 d2 ≠ 0) :
    (kd (hW (jr a1 a2 b1 b2 c1 c2 d1 d2) (cT a1 a2 b1 b2 c1 c2 d1 d2)) (hy (cT a1 a2 b1 b2 c1 c2 d1 d2)) c1 d1 ∧ kd (hW (js a1 a2 b1 b2 c1 c2 d1 d2) (cT a1 a2 b1 b2 c1 c2 d1 d2)) (hy (cT a1 a2 b1 b2 c1 c2 d1 d2)) c2 d2) ↔ ¬ same (bW a1 a2 b1 b2 c1 c2) (bW a1 a2 b1 b2 d1 d2) := by
  have bU := (RW h).2;have aF := HM a1 a2 b1 b2 c1 c2 d1 d2;have aM := HN a1 a2 b1 b2 c1 c2 d1 d2;have cg := I7 a1 a2 b1 b2 c1 c2 d1 d2;generalize jr a1 a2 b1 b2 c1 c2 d1 d2 = X at *;generalize js a1 a2 b1 b2 c1 c2 d1 d2 = Y at *;generalize cT a1 a2 b1 b2 c1 c2 d1 d2 = w at *;generalize bW a1 a2 b1 b2 c1 c2 = C at *;generalize bW a1 a2 b1 b2 d1 d2 = D at *;unfold hW hy same
  by_cases g : w < 0
  · rw [if_pos g, if_pos g, if_pos g, rJ (a := c1), rJ (a := c2)]
    have aU := BB (x := d1) (y := c1) (u := d2) (v := c2) (A := -D) (B := -C) (D := -w) (by omega) (by omega) (by omega);have f1 : c1 * -D - d1 * -C = -X := by rw [← aF]; simp only [Int.mul_neg]; omega
    have f2 : c2 * -D - d2 * -C = -Y := by rw [← aM]; simp only [Int.mul_neg]; omega
    rw [f1, f2] at aU;rw [aU]; omega
  · rw [if_neg g, if_neg g, if_neg g, rJ (a := c1), rJ (a := c2)]
    have aU := BB (x := d1) (y := c1) (u := d2) (v := c2) (A := D) (B := C) (D := w) (by omega) (by omega) (by omega);rw [aF, aM] at aU;rw [aU]; omega
theorem af3 {a1 a2 b1 b2 c1 c2 d1 d2 : Int} (h : cT a1 a2 b1 b2 c1 c2 d1 d2 ≠ 0) :
    (kd (hW (jr a1 a2 b1 b2 c1 c2 d1 d2) (cT a1 a2 b1 b2 c1 c2 d1 d2)) (hy (cT a1 a2 b1 b2 c1 c2 d1 d2)) a1 b1 ∧ kd (hW (js a1 a2 b1 b2 c1 c2 d1 d2) (cT a1 a2 b1 b2 c1 c2 d1 d2)) (hy (cT a1 a2 b1 b2 c1 c2 d1 d2)) a2 b2) ↔ ¬ same (bW c1 c2 d1 d2 a1 a2) (bW c1 c2 d1 d2 b1 b2) := by
  have aO : cT c1 c2 d1 d2 a1 a2 b1 b2 ≠ 0 := by rw [xU]; omega
  have := Rv aO;rw [OO, OP, xU, qW h, qW h, zV] at this;exact this
theorem WH {a1 a2 b1 b2 c1 c2 d1 d2 : Int} (h : cT a1 a2 b1 b2 c1 c2 d1 d2 ≠ 0) :
    four a1 a2 b1 b2 c1 c2 d1 d2 (hW (jr a1 a2 b1 b2 c1 c2 d1 d2) (cT a1 a2 b1 b2 c1 c2 d1 d2)) (hW (js a1 a2 b1 b2 c1 c2 d1 d2) (cT a1 a2 b1 b2 c1 c2 d1 d2)) (hy (cT a1 a2 b1 b2 c1 c2 d1 d2)) ↔ ¬ (same (bW a1 a2 b1 b2 c1 c2) (bW a1 a2 b1 b2 d1 d2) ∨ same (bW c1 c2 d1 d2 a1 a2) (bW c1 c2 d1 d2 b1 b2)) := by
  unfold four;have p := Rv h;have q := af3 h
  constructor
  · rintro ⟨h1, h2, an, aE⟩ (g | g)
    · exact p.1 ⟨an, aE⟩ g
    · exact q.1 ⟨h1, h2⟩ g
  · intro g
    obtain ⟨an, aE⟩ := p.2 fun k => g (.inl k);obtain ⟨h1, h2⟩ := q.2 fun k => g (.inr k);exact ⟨h1, h2, an, aE⟩
def cV (a1 a2 b1 b2 : Int) : Int := if cM a1 a2 b1 b2 then a1 else b1
def cI (a1 a2 b1 b2 : Int) : Int := if cM a1 a2 b1 b2 then a2 else b2
def cR (a1 a2 b1 b2 : Int) : Int := if cM a1 a2 b1 b2 then b1 else a1
def cH (a1 a2 b1 b2 : Int) : Int := if cM a1 a2 b1 b2 then b2 else a2
theorem hr (a1 a2 b1 b2 : Int) : (cV a1 a2 b1 b2 = a1 ∧ cI a1 a2 b1 b2 = a2 ∧ cR a1 a2 b1 b2 = b1 ∧ cH a1 a2 b1 b2 = b2 ∧ cM a1 a2 b1 b2) ∨ (cV a1 a2 b1 b2 = b1 ∧ cI a1 a2 b1 b2 = b2 ∧ cR a1 a2 b1 b2 = a1 ∧ cH a1 a2 b1 b2 = a2 ∧ cM b1 b2 a1 a2) := by
  unfold cV cI cR cH
  by_cases h : cM a1 a2 b1 b2
  · simp [h]
  · simp [h, (cM.total a1 a2 b1 b2).resolve_left h]
theorem qR (a1 a2 b1 b2 : Int) : cM (cV a1 a2 b1 b2) (cI a1 a2 b1 b2) (cR a1 a2 b1 b2) (cH a1 a2 b1 b2) := by
  rcases hr a1 a2 b1 b2 with ⟨h1, h2, an, aE, h⟩ | ⟨h1, h2, an, aE, h⟩ <;> rw [h1, h2, an, aE] <;> exact h
theorem CY (a1 a2 b1 b2 : Int) : cV b1 b2 a1 a2 = cV a1 a2 b1 b2 ∧ cI b1 b2 a1 a2 = cI a1 a2 b1 b2 ∧ cR b1 b2 a1 a2 = cR a1 a2 b1 b2 ∧ cH b1 b2 a1 a2 = cH a1 a2 b1 b2 := by
  rcases hr a1 a2 b1 b2 with ⟨h1, h2, an, aE, h⟩ | ⟨h1, h2, an, aE, h⟩ <;> rcases hr b1 b2 a1 a2 with ⟨bl, bJ, e6, gH, k⟩ | ⟨bl, bJ, e6, gH, k⟩ <;> rw [h1, h2, an, aE, bl, bJ, e6, gH] <;> (try have := cM.wy h k) <;> simp_all
theorem zW {p1 p2 a1 a2 b1 b2 : Int} : cG p1 p2 b1 b2 a1 a2 ↔ cG p1 p2 a1 a2 b1 b2 := by
  unfold cG qL;have e : bW b1 b2 a1 a2 p1 p2 = - bW a1 a2 b1 b2 p1 p2 := by unfold bW; grind
  have m : ∀ x y : Int, fU x y = fU y x := fun x y => by unfold fU; split <;> split <;> omega
  have n : ∀ x y : Int, fT x y = fT y x := fun x y => by unfold fT; split <;> split <;> omega
  rw [e, m a1, m a2, n a1, n a2]
  constructor <;> rintro ⟨h, k⟩ <;> exact ⟨by omega, k⟩
instance (p1 p2 a1 a2 b1 b2 : Int) : Decidable (qL p1 p2 a1 a2 b1 b2) := by unfold qL; exact inferInstance
instance (p1 p2 a1 a2 b1 b2 : Int) : Decidable (cG p1 p2 a1 a2 b1 b2) := by unfold cG; exact inferInstance
theorem tV {p1 p2 a1 a2 b1 b2 : Int} : cG p1 p2 (cV a1 a2 b1 b2) (cI a1 a2 b1 b2) (cR a1 a2 b1 b2) (cH a1 a2 b1 b2) ↔ cG p1 p2 a1 a2 b1 b2 := by
  rcases hr a1 a2 b1 b2 with ⟨h1, h2, an, aE, h⟩ | ⟨h1, h2, an, aE, h⟩ <;> rw [h1, h2, an, aE];exact zW
theorem ad0 {s1 s2 bC bE t1 t2 t3 t4 : Int} : mL t1 t2 t3 t4 s1 s2 bC bE = - mL s1 s2 bC bE t1 t2 t3 t4 := by unfold mL; grind
theorem CZ {s1 s2 bC bE t1 t2 t3 t4 p1 p2 : Int} (hs : cM s1 s2 bC bE) (aB : cM t1 t2 t3 t4) (hw : mL s1 s2 bC bE t1 t2 t3 t4 = 0) (ps : cG p1 p2 s1 s2 bC bE) (o0 : cG p1 p2 t1 t2 t3 t4) :
    cG (cR s1 s2 t1 t2) (cH s1 s2 t1 t2) s1 s2 bC bE ∧ cG (cR s1 s2 t1 t2) (cH s1 s2 t1 t2) t1 t2 t3 t4 ∧ cG (cV bC bE t3 t4) (cI bC bE t3 t4) s1 s2 bC bE ∧ cG (cV bC bE t3 t4) (cI bC bE t3 t4) t1 t2 t3 t4
    ∧ cM (cR s1 s2 t1 t2) (cH s1 s2 t1 t2) p1 p2 ∧ cM p1 p2 (cV bC bE t3 t4) (cI bC bE t3 t4) := by
  obtain ⟨_, er, xO⟩ := (vH hs).1 ps;obtain ⟨_, t0, t9⟩ := (vH aB).1 o0;have oM : mL t1 t2 t3 t4 s1 s2 bC bE = 0 := by rw [ad0]; omega
  rcases hr s1 s2 t1 t2 with ⟨_, _, an, aE, h⟩ | ⟨_, _, an, aE, h⟩ <;> rcases hr bC bE t3 t4 with ⟨bl, bJ, _, _, k⟩ | ⟨bl, bJ, _, _, k⟩ <;> rw [an, aE, bl, bJ]
  · exact ⟨tU aB hs oM o0 ps (tS aB) h (t0.trans xO), tS aB, tR hs, tU hs aB hw ps o0 (tR hs) (t0.trans xO) k, t0, xO⟩
  · exact ⟨tU aB hs oM o0 ps (tS aB) h (t0.trans xO), tS aB, tU aB hs oM o0 ps (tR aB) (er.trans t9) k, tR aB, t0, t9⟩
  · exact ⟨tS hs, tU hs aB hw ps o0 (tS hs) h (er.trans t9), tR hs, tU hs aB hw ps o0 (tR hs) (t0.trans xO) k, er, xO⟩
  · exact ⟨tS hs, tU hs aB hw ps o0 (tS hs) h (er.trans t9), tU aB hs oM o0 ps (tR aB) (er.trans t9) k, tR aB, er, t9⟩
def pP (f1 f2 g1 g2 : Int) : eI := if f1 = g1 ∧ f2 = g2 then gl f1 1 f2 1 else kc f1 f2 g1 g2
def inl (s1 s2 bC bE t1 t2 t3 t4 : Int) : eI :=
  if cG (cR s1 s2 t1 t2) (cH s1 s2 t1 t2) s1 s2 bC bE ∧ cG (cR s1 s2 t1 t2) (cH s1 s2 t1 t2) t1 t2 t3 t4 then pP (cR s1 s2 t1 t2) (cH s1 s2 t1 t2) (cV bC bE t3 t4) (cI bC bE t3 t4) else e7
theorem Zw (s1 s2 bC bE t1 t2 t3 t4 : Int) : inl t1 t2 t3 t4 s1 s2 bC bE = inl s1 s2 bC bE t1 t2 t3 t4 := by
  unfold inl;obtain ⟨_, _, h1, h2⟩ := CY s1 s2 t1 t2;obtain ⟨an, aE, _, _⟩ := CY bC bE t3 t4;rw [h1, h2, an, aE];exact tH and_comm
def pQ (a1 a2 b1 b2 c1 c2 d1 d2 : Int) : eI := inl (cV a1 a2 b1 b2) (cI a1 a2 b1 b2) (cR a1 a2 b1 b2) (cH a1 a2 b1 b2) (cV c1 c2 d1 d2) (cI c1 c2 d1 d2) (cR c1 c2 d1 d2) (cH c1 c2 d1 d2)
def fm (a1 a2 b1 b2 c1 c2 d1 d2 : Int) : eI := if cT a1 a2 b1 b2 c1 c2 d1 d2 = 0 then pQ a1 a2 b1 b2 c1 c2 d1 d2 else kG a1 a2 b1 b2 c1 c2 d1 d2
theorem On (a1 a2 b1 b2 c1 c2 d1 d2 : Int) : fm b1 b2 a1 a2 c1 c2 d1 d2 = fm a1 a2 b1 b2 c1 c2 d1 d2 := by
  unfold fm;obtain ⟨h1, h2, an, aE⟩ := CY a1 a2 b1 b2
  by_cases h : cT a1 a2 b1 b2 c1 c2 d1 d2 = 0
  · rw [if_pos (by rw [AK]; omega), if_pos h]; unfold pQ; rw [h1, h2, an, aE]
  · rw [if_neg (by rw [AK]; omega), if_neg h, aaV h]
theorem Oo (a1 a2 b1 b2 c1 c2 d1 d2 : Int) : fm a1 a2 b1 b2 d1 d2 c1 c2 = fm a1 a2 b1 b2 c1 c2 d1 d2 := by
  unfold fm;obtain ⟨h1, h2, an, aE⟩ := CY c1 c2 d1 d2
  by_cases h : cT a1 a2 b1 b2 c1 c2 d1 d2 = 0
  · rw [if_pos (by rw [vW]; omega), if_pos h]; unfold pQ; rw [h1, h2, an, aE]
  · rw [if_neg (by rw [vW]; omega), if_neg h, aaW h]
theorem aaZ (a1 a2 b1 b2 c1 c2 d1 d2 : Int) : fm c1 c2 d1 d2 a1 a2 b1 b2 = fm a1 a2 b1 b2 c1 c2 d1 d2 := by
  unfold fm
  by_cases h : cT a1 a2 b1 b2 c1 c2 d1 d2 = 0
  · rw [if_pos (by rw [xU]; omega), if_pos h]; unfold pQ; rw [Zw]
  · rw [if_neg (by rw [xU]; omega), if_neg h, Om h]
theorem Oq (a1 a2 b1 b2 c1 c2 d1 d2 : Int) : fm (cV a1 a2 b1 b2) (cI a1 a2 b1 b2) (cR a1 a2 b1 b2) (cH a1 a2 b1 b2) (cV c1 c2 d1 d2) (cI c1 c2 d1 d2) (cR c1 c2 d1 d2) (cH c1 c2 d1 d2) = fm a1 a2 b1 b2 c1 c2 d1 d2 := by
  rcases hr a1 a2 b1 b2 with ⟨h1, h2, an, aE, _⟩ | ⟨h1, h2, an, aE, _⟩ <;> rcases hr c1 c2 d1 d2 with ⟨bl, bJ, e6, gH, _⟩ | ⟨bl, bJ, e6, gH, _⟩ <;> rw [h1, h2, an, aE, bl, bJ, e6, gH]
  · rw [Oo]
  · rw [On]
  · rw [On, Oo]
def HB (s1 s2 bC bE t1 t2 t3 t4 A B C D : Int) : eI :=
  if A = B then inl s1 s2 bC bE t1 t2 t3 t4
  else if same A B ∨ same C D then e7
  else gl (hW (t3 * A - t1 * B) (A - B)) (hy (A - B)) (hW (t4 * A - t2 * B) (A - B)) (hy (A - B))
theorem zP {s1 s2 bC bE : Int} (h : cM s1 s2 bC bE) : cV s1 s2 bC bE = s1 ∧ cI s1 s2 bC bE = s2 ∧ cR s1 s2 bC bE = bC ∧ cH s1 s2 bC bE = bE := by
  unfold cV cI cR cH; simp [h]
theorem aaX {s1 s2 bC bE t1 t2 t3 t4 : Int} (hs : cM s1 s2 bC bE) (aB : cM t1 t2 t3 t4) :
    HB s1 s2 bC bE t1 t2 t3 t4 (bW s1 s2 bC bE t1 t2) (bW s1 s2 bC bE t3 t4) (bW t1 t2 t3 t4 s1 s2) (bW t1 t2 t3 t4 bC bE) = fm s1 s2 bC bE t1 t2 t3 t4 := by
  have aF := HM s1 s2 bC bE t1 t2 t3 t4;have aM := HN s1 s2 bC bE t1 t2 t3 t4;have cg := I7 s1 s2 bC bE t1 t2 t3 t4;unfold HB fm
  by_cases h : cT s1 s2 bC bE t1 t2 t3 t4 = 0
  · rw [if_pos (by omega), if_pos h]
    unfold pQ;obtain ⟨h1, h2, an, aE⟩ := zP hs;obtain ⟨bl, bJ, e6, gH⟩ := zP aB;rw [h1, h2, an, aE, bl, bJ, e6, gH]
  · rw [if_neg (by omega), if_neg h]
    have f := WH h;have g1 : t3 * bW s1 s2 bC bE t1 t2 - t1 * bW s1 s2 bC bE t3 t4 = - jr s1 s2 bC bE t1 t2 t3 t4 := by omega
    have g2 : t4 * bW s1 s2 bC bE t1 t2 - t2 * bW s1 s2 bC bE t3 t4 = - js s1 s2 bC bE t1 t2 t3 t4 := by omega
    have g3 : bW s1 s2 bC bE t1 t2 - bW s1 s2 bC bE t3 t4 = - cT s1 s2 bC bE t1 t2 t3 t4 := by omega
    rw [g1, g2, g3, qW h, qW h, zV];unfold kG pS
    by_cases q : same (bW s1 s2 bC bE t1 t2) (bW s1 s2 bC bE t3 t4) ∨ same (bW t1 t2 t3 t4 s1 s2) (bW t1 t2 t3 t4 bC bE)
    · rw [if_pos q, if_neg fun k => f.1 k q]
    · rw [if_neg q, if_pos (f.2 q)]
def sn (a b : Int × Int) : Prop := a.1 < b.1 ∨ (a.1 = b.1 ∧ a.2 < b.2)
instance (a b : Int × Int) : Decidable (sn a b) := by unfold sn; exact inferInstance
def iZ (a b : Int × Int) : Int × Int := if sn a b then a else b
def kH (a b : Int × Int) : Int × Int := if iZ a b = a then b else a
theorem aaz (a b : Int × Int) : (iZ a b = a ∨ iZ a b = b) ∧ cM (iZ a b).1 (iZ a b).2 a.1 a.2 ∧ cM (iZ a b).1 (iZ a b).2 b.1 b.2 := by
  unfold iZ cM
  by_cases h : sn a b
  · rw [if_pos h]; unfold sn at h; exact ⟨.inl rfl, by omega, by omega⟩
  · rw [if_neg h]; unfold sn at h; exact ⟨.inr rfl, by omega, by omega⟩
theorem abe (a b : Int × Int) : (kH a b = a ∨ kH a b = b) ∧ cM a.1 a.2 (kH a b).1 (kH a b).2 ∧ cM b.1 b.2 (kH a b).1 (kH a b).2 := by
  unfold kH iZ cM
  by_cases h : sn a b
  · rw [if_pos h, if_pos rfl]; unfold sn at h; exact ⟨.inr rfl, by omega, by omega⟩
  · rw [if_neg h]
    by_cases e : b = a
    · rw [if_pos e]; subst e; exact ⟨.inr rfl, by omega, by omega⟩
    · rw [if_neg e]
      have : ¬ (b.1 = a.1 ∧ b.2 = a.2) := fun k => e (Prod.ext k.1 k.2);unfold sn at h;exact ⟨.inl rfl, by omega, by omega⟩
theorem FL : ∀ (l : List (Int × Int)) (x : Int × Int), l.foldl iZ x ∈ x :: l ∧ ∀ p, p ∈ x :: l → cM (l.foldl iZ x).1 (l.foldl iZ x).2 p.1 p.2
  | [], x => ⟨by simp, fun p hp => by simp at hp; subst hp; exact .Ag⟩
  | y :: l, x => by
    obtain ⟨h1, h2⟩ := FL l (iZ x y);obtain ⟨e5, bl, bJ⟩ := aaz x y;refine ⟨?_, fun p hp => ?_⟩
    · simp only [o7]
      rcases fD.1 h1 with e | e
      · rw [e]; rcases e5 with e5 | e5 <;> rw [e5] <;> simp
      · simp [e]
    · simp only [o7]
      have an := h2 (iZ x y) (by simp);simp only [fD] at hp;rcases hp with rfl | rfl | hp
      · exact an.trans bl
      · exact an.trans bJ
      · exact h2 p (by simp [hp])
theorem Mc : ∀ (l : List (Int × Int)) (x : Int × Int), l.foldl kH x ∈ x :: l ∧ ∀ p, p ∈ x :: l → cM p.1 p.2 (l.foldl kH x).1 (l.foldl kH x).2
  | [], x => ⟨by simp, fun p hp => by simp at hp; subst hp; exact .Ag⟩
  | y :: l, x => by
    obtain ⟨h1, h2⟩ := Mc l (kH x y);obtain ⟨e5, bl, bJ⟩ := abe x y;refine ⟨?_, fun p hp => ?_⟩
    · simp only [o7]
      rcases fD.1 h1 with e | e
      · rw [e]; rcases e5 with e5 | e5 <;> rw [e5] <;> simp
      · simp [e]
    · simp only [o7]
      have an := h2 (kH x y) (by simp);simp only [fD] at hp;rcases hp with rfl | rfl | hp
      · exact bl.trans an
      · exact bJ.trans an
      · exact h2 p (by simp [hp])
def ends (a1 a2 b1 b2 c1 c2 d1 d2 : Int) : List (Int × Int) := [(a1, a2), (b1, b2), (c1, c2), (d1, d2)].filter fun p => decide (cG p.1 p.2 a1 a2 b1 b2) && decide (cG p.1 p.2 c1 c2 d1 d2)
def DZ : List (Int × Int) → eI
  | [] => e7
  | x :: l => pP (l.foldl iZ x).1 (l.foldl iZ x).2 (l.foldl kH x).1 (l.foldl kH x).2
theorem afe {a1 a2 b1 b2 c1 c2 d1 d2 : Int} (h : cT a1 a2 b1 b2 c1 c2 d1 d2 = 0) : DZ (ends a1 a2 b1 b2 c1 c2 d1 d2) = fm a1 a2 b1 b2 c1 c2 d1 d2 := by
  have nf := Oq a1 a2 b1 b2 c1 c2 d1 d2;have hs := qR a1 a2 b1 b2;have aB := qR c1 c2 d1 d2
  have hw : mL (cV a1 a2 b1 b2) (cI a1 a2 b1 b2) (cR a1 a2 b1 b2) (cH a1 a2 b1 b2) (cV c1 c2 d1 d2) (cI c1 c2 d1 d2) (cR c1 c2 d1 d2) (cH c1 c2 d1 d2) = 0 := by
    have h1 := AK a1 a2 b1 b2 c1 c2 d1 d2;have h2 := vW a1 a2 b1 b2 c1 c2 d1 d2;have an := vW b1 b2 a1 a2 c1 c2 d1 d2;rw [← AL];rcases hr a1 a2 b1 b2 with ⟨h1, h2, an, aE, _⟩ | ⟨h1, h2, an, aE, _⟩ <;> rcases hr c1 c2 d1 d2 with ⟨bl, bJ, e6, gH, _⟩ | ⟨bl, bJ, e6, gH, _⟩ <;> rw [h1, h2, an, aE, bl, bJ, e6, gH] <;> omega
  have od : ∀ p1 p2, cG p1 p2 (cV a1 a2 b1 b2) (cI a1 a2 b1 b2) (cR a1 a2 b1 b2) (cH a1 a2 b1 b2) ↔ cG p1 p2 a1 a2 b1 b2 := fun _ _ => tV;have tO9 : ∀ p1 p2, cG p1 p2 (cV c1 c2 d1 d2) (cI c1 c2 d1 d2) (cR c1 c2 d1 d2) (cH c1 c2 d1 d2) ↔ cG p1 p2 c1 c2 d1 d2 := fun _ _ => tV
  have hV : (cV a1 a2 b1 b2, cI a1 a2 b1 b2) = (a1, a2) ∧ (cR a1 a2 b1 b2, cH a1 a2 b1 b2) = (b1, b2) ∨ (cV a1 a2 b1 b2, cI a1 a2 b1 b2) = (b1, b2) ∧ (cR a1 a2 b1 b2, cH a1 a2 b1 b2) = (a1, a2) := by
    rcases hr a1 a2 b1 b2 with ⟨h1, h2, an, aE, _⟩ | ⟨h1, h2, an, aE, _⟩ <;> rw [h1, h2, an, aE] <;> simp
  have aw : (cV c1 c2 d1 d2, cI c1 c2 d1 d2) = (c1, c2) ∧ (cR c1 c2 d1 d2, cH c1 c2 d1 d2) = (d1, d2) ∨ (cV c1 c2 d1 d2, cI c1 c2 d1 d2) = (d1, d2) ∧ (cR c1 c2 d1 d2, cH c1 c2 d1 d2) = (c1, c2) := by
    rcases hr c1 c2 d1 d2 with ⟨h1, h2, an, aE, _⟩ | ⟨h1, h2, an, aE, _⟩ <;> rw [h1, h2, an, aE] <;> simp
  rw [← nf];unfold fm;rw [if_pos (by rw [AL]; exact hw)];unfold pQ;obtain ⟨h1, h2, an, aE⟩ := zP hs;obtain ⟨bl, bJ, e6, gH⟩ := zP aB;rw [h1, h2, an, aE, bl, bJ, e6, gH];clear h1 h2 an aE bl bJ e6 gH nf
  have mem : ∀ p, p ∈ ends a1 a2 b1 b2 c1 c2 d1 d2 ↔ (p = (a1, a2) ∨ p = (b1, b2) ∨ p = (c1, c2) ∨ p = (d1, d2)) ∧ cG p.1 p.2 a1 a2 b1 b2 ∧ cG p.1 p.2 c1 c2 d1 d2 := by
    intro p; unfold ends; simp only [sB, dc, cq, fD, sC, or_false]
  generalize ends a1 a2 b1 b2 c1 c2 d1 d2 = L at *;generalize cV a1 a2 b1 b2 = s1 at *;generalize cI a1 a2 b1 b2 = s2 at *;generalize cR a1 a2 b1 b2 = bC at *;generalize cH a1 a2 b1 b2 = bE at *;generalize cV c1 c2 d1 d2 = t1 at *;generalize cI c1 c2 d1 d2 = t2 at *;generalize cR c1 c2 d1 d2 = t3 at *;generalize cH c1 c2 d1 d2 = t4 at *;have my : ((cR s1 s2 t1 t2, cH s1 s2 t1 t2) = (s1, s2) ∨ (cR s1 s2 t1 t2, cH s1 s2 t1 t2) = (t1, t2)) := by rcases hr s1 s2 t1 t2 with ⟨_, _, an, aE, _⟩ | ⟨_, _, an, aE, _⟩ <;> rw [an, aE] <;> simp
  have BQ : ((cV bC bE t3 t4, cI bC bE t3 t4) = (bC, bE) ∨ (cV bC bE t3 t4, cI bC bE t3 t4) = (t3, t4)) := by rcases hr bC bE t3 t4 with ⟨an, aE, _⟩ | ⟨an, aE, _⟩ <;> rw [an, aE] <;> simp
  have key := fun p1 p2 => @CZ s1 s2 bC bE t1 t2 t3 t4 p1 p2 hs aB hw;unfold inl;generalize cR s1 s2 t1 t2 = f1 at *;generalize cH s1 s2 t1 t2 = f2 at *;generalize cV bC bE t3 t4 = g1 at *;generalize cI bC bE t3 t4 = g2 at *
  have LA : (f1, f2) = (a1, a2) ∨ (f1, f2) = (b1, b2) ∨ (f1, f2) = (c1, c2) ∨ (f1, f2) = (d1, d2) := by
    rcases my with e | e <;> rw [e]
    · rcases hV with ⟨e, _⟩ | ⟨e, _⟩ <;> rw [e] <;> simp
    · rcases aw with ⟨e, _⟩ | ⟨e, _⟩ <;> rw [e] <;> simp
  have Wc : (g1, g2) = (a1, a2) ∨ (g1, g2) = (b1, b2) ∨ (g1, g2) = (c1, c2) ∨ (g1, g2) = (d1, d2) := by
    rcases BQ with e | e <;> rw [e]
    · rcases hV with ⟨_, e⟩ | ⟨_, e⟩ <;> rw [e] <;> simp
    · rcases aw with ⟨_, e⟩ | ⟨_, e⟩ <;> rw [e] <;> simp
  cases L with
  | nil =>
    rw [if_neg]
    · rfl
    · rintro ⟨h1, h2⟩
      have := (mem (f1, f2)).2 ⟨LA, (od _ _).1 h1, (tO9 _ _).1 h2⟩;simp at this
  | cons x l =>
    obtain ⟨_, jc, aew⟩ := (mem x).1 (by simp);obtain ⟨b3, b7, fq, gQ, _, _⟩ := key x.1 x.2 ((od _ _).2 jc) ((tO9 _ _).2 aew);rw [if_pos ⟨b3, b7⟩];obtain ⟨m1, m2⟩ := FL l x;obtain ⟨dp, dX⟩ := Mc l x;have WE := (mem (f1, f2)).2 ⟨LA, (od _ _).1 b3, (tO9 _ _).1 b7⟩;have qz := (mem (g1, g2)).2 ⟨Wc, (od _ _).1 fq, (tO9 _ _).1 gQ⟩;have v1 := m2 _ WE;have v2 := dX _ qz;obtain ⟨_, pm, aet⟩ := (mem _).1 m1;obtain ⟨_, aei, aeu⟩ := (mem _).1 dp;obtain ⟨_, _, _, _, w1, _⟩ := key _ _ ((od _ _).2 pm) ((tO9 _ _).2 aet);obtain ⟨_, _, _, _, _, w2⟩ := key _ _ ((od _ _).2 aei) ((tO9 _ _).2 aeu);obtain ⟨eW, z2⟩ := cM.wy v1 w1;obtain ⟨z3, z4⟩ := cM.wy v2 w2;simp only [DZ];rw [eW, z2, ← z3, ← z4]
structure hR where
 n : Int
 d : Int
 own : Bool
structure Pa where
 f : hR
 t : hR
def hG (x y : hR) : Int := b9 (x.n * y.d) (y.n * x.d)
def qP (x y : hR) : hR := if 0 < hG x y ∨ (hG x y = 0 ∧ y.own = true) then x else y
def qv (x y : hR) : hR := if hG x y < 0 ∨ (hG x y = 0 ∧ y.own = true) then x else y
def n5 (p : Pa) (u v : Int) (own : Bool) : Pa :=
 if 0 < v - u then ⟨qP p.f ⟨-u, v - u, own⟩, p.t⟩
 else if v - u < 0 then ⟨p.f, qv p.t ⟨u, -(v - u), own⟩⟩
 else if u < 0 ∨ (u = 0 ∧ own = false) then ⟨⟨1, 1, false⟩, ⟨0, 1, false⟩⟩ else p
def wx (p : Pa) : Bool := decide (hG p.f p.t < 0) || (decide (hG p.f p.t = 0) && p.f.own && p.t.own)
def uK : Pa := ⟨⟨0, 1, true⟩, ⟨1, 1, true⟩⟩
theorem Zn (x y : Int) : b9 x y < 0 ↔ x < y := by unfold b9; split <;> (try split) <;> omega
theorem Zm (x y : Int) : 0 < b9 x y ↔ y < x := by unfold b9; split <;> (try split) <;> omega
theorem Zl (x y : Int) : b9 x y = 0 ↔ x = y := by unfold b9; split <;> (try split) <;> omega
def qe (x : hR) (n d : Int) : Prop := x.n * d < n * x.d ∨ (x.own = true ∧ x.n * d = n * x.d)
def qg (y : hR) (n d : Int) : Prop := n * y.d < y.n * d ∨ (y.own = true ∧ n * y.d = y.n * d)
def pj (p : Pa) (n d : Int) : Prop := qe p.f n d ∧ qg p.t n d
theorem oT {a b c : Int} (h : a < b) (aj : 0 < c) : a * c < b * c := Int.mul_lt_mul_of_pos_right h aj
theorem lt_mul {a b c : Int} (h : a * c < b * c) (aj : 0 < c) : a < b := Int.lt_of_mul_lt_mul_right h (by omega)
theorem eq_mul {a b c : Int} (h : a * c = b * c) (aj : 0 < c) : a = b := Int.eq_of_mul_eq_mul_right (by omega) h
theorem uY {a b c d e f : Int} (ab : 0 < b) (hd : 0 < d) (ar : 0 < f) (h : a * d < c * b) (k : c * f < e * d) : a * f < e * b := by
 have h1 := oT h ar;have h2 := oT k ab;refine lt_mul (c := d) ?_ hd;have aF : a * d * f = a * f * d := by grind
 have aM : c * b * f = c * f * b := by grind
 have cg : e * d * b = e * b * d := by grind
 omega
theorem wP {a b c d e f : Int} (ab : 0 < b) (hd : 0 < d) (ar : 0 < f) (h : a * d = c * b) (k : c * f < e * d) : a * f < e * b := by
 have h2 := oT k ab;refine lt_mul (c := d) ?_ hd;have aF : a * d * f = a * f * d := by grind
 have aM : c * b * f = c * f * b := by grind
 have cg : e * d * b = e * b * d := by grind
 have h1 : a * d * f = c * b * f := by rw [h]
 omega
theorem wQ {a b c d e f : Int} (ab : 0 < b) (hd : 0 < d) (ar : 0 < f) (h : a * d < c * b) (k : c * f = e * d) : a * f < e * b := by
 have h1 := oT h ar;refine lt_mul (c := d) ?_ hd;have aF : a * d * f = a * f * d := by grind
 have aM : c * b * f = c * f * b := by grind
 have cg : e * d * b = e * b * d := by grind
 have h2 : c * f * b = e * d * b := by rw [k]
 omega
theorem FO {a b c d e f : Int} (ab : 0 < b) (hd : 0 < d) (ar : 0 < f) (h : a * d = c * b) (k : c * f = e * d) : a * f = e * b := by
 refine eq_mul (c := d) ?_ hd;have aF : a * d * f = a * f * d := by grind
 have aM : c * b * f = c * f * b := by grind
 have cg : e * d * b = e * b * d := by grind
 have h1 : a * d * f = c * b * f := by rw [h]
 have h2 : c * f * b = e * d * b := by rw [k]
 omega
theorem BH (x y : hR) : (x.n * y.d < y.n * x.d ∧ hG x y < 0) ∨ (x.n * y.d = y.n * x.d ∧ hG x y = 0) ∨ (y.n * x.d < x.n * y.d ∧ 0 < hG x y) := by
 have h1 := Zn (x.n * y.d) (y.n * x.d);have h2 := Zm (x.n * y.d) (y.n * x.d);have an := Zl (x.n * y.d) (y.n * x.d);unfold hG;omega
theorem N5 (x y : hR) : (qP x y = x ∧ (0 < hG x y ∨ (hG x y = 0 ∧ y.own = true))) ∨ (qP x y = y ∧ ¬ (0 < hG x y ∨ (hG x y = 0 ∧ y.own = true))) := by
 unfold qP
 split
 ·rename_i h; exact .inl ⟨rfl, h⟩
 ·rename_i h; exact .inr ⟨rfl, h⟩
theorem Ly (x y : hR) : (qv x y = x ∧ (hG x y < 0 ∨ (hG x y = 0 ∧ y.own = true))) ∨ (qv x y = y ∧ ¬ (hG x y < 0 ∨ (hG x y = 0 ∧ y.own = true))) := by
 unfold qv
 split
 ·rename_i h; exact .inl ⟨rfl, h⟩
 ·rename_i h; exact .inr ⟨rfl, h⟩
theorem TK {x y : hR} {n d : Int} (aa : 0 < x.d) (ai : 0 < y.d) (hd : 0 < d) : qe (qP x y) n d ↔ qe x n d ∧ qe y n d := by
 unfold qe;rcases N5 x y with ⟨e, h⟩ | ⟨e, h⟩ <;> rw [e] <;> rcases BH x y with ⟨t, c⟩ | ⟨t, c⟩ | ⟨t, c⟩
 ·omega
 ·have az : y.own = true := by rcases h with h | ⟨_, h⟩ <;> first | exact h | (exfalso; omega)
  refine ⟨fun k => ⟨k, ?_⟩, fun k => k.1⟩;rcases k with k | ⟨_, k⟩
  ·exact .inl (wP ai aa hd t.symm k)
  ·exact .inr ⟨az, FO ai aa hd t.symm k⟩
 ·refine ⟨fun k => ⟨k, ?_⟩, fun k => k.1⟩;rcases k with k | ⟨_, k⟩
  ·exact .inl (uY ai aa hd t k)
  ·exact .inl (wQ ai aa hd t k)
 ·refine ⟨fun k => ⟨?_, k⟩, fun k => k.2⟩;rcases k with k | ⟨_, k⟩
  ·exact .inl (uY aa ai hd t k)
  ·exact .inl (wQ aa ai hd t k)
 ·refine ⟨fun k => ⟨?_, k⟩, fun k => k.2⟩;have az : ¬ y.own = true := fun q => h (.inr ⟨c, q⟩);rcases k with k | ⟨q, k⟩
  ·exact .inl (wP aa ai hd t k)
  ·exact absurd q az
 ·omega
theorem U4 {x y : hR} {n d : Int} (aa : 0 < x.d) (ai : 0 < y.d) (hd : 0 < d) : qg (qv x y) n d ↔ qg x n d ∧ qg y n d := by
 unfold qg;rcases Ly x y with ⟨e, h⟩ | ⟨e, h⟩ <;> rw [e] <;> rcases BH x y with ⟨t, c⟩ | ⟨t, c⟩ | ⟨t, c⟩
 ·refine ⟨fun k => ⟨k, ?_⟩, fun k => k.1⟩;rcases k with k | ⟨_, k⟩
  ·exact .inl (uY hd aa ai k t)
  ·exact .inl (wP hd aa ai k t)
 ·have az : y.own = true := by rcases h with h | ⟨_, h⟩ <;> first | exact h | (exfalso; omega)
  refine ⟨fun k => ⟨k, ?_⟩, fun k => k.1⟩;rcases k with k | ⟨_, k⟩
  ·exact .inl (wQ hd aa ai k t)
  ·exact .inr ⟨az, FO hd aa ai k t⟩
 ·omega
 ·omega
 ·refine ⟨fun k => ⟨?_, k⟩, fun k => k.2⟩;have az : ¬ y.own = true := fun q => h (.inr ⟨c, q⟩);rcases k with k | ⟨q, k⟩
  ·exact .inl (wQ hd ai aa k t.symm)
  ·exact absurd q az
 ·refine ⟨fun k => ⟨?_, k⟩, fun k => k.2⟩;rcases k with k | ⟨_, k⟩
  ·exact .inl (uY hd ai aa k t)
  ·exact .inl (wP hd ai aa k t)
def jF (u v : Int) (own : Bool) (n d : Int) : Prop := 0 < u * (d - n) + v * n ∨ (own = true ∧ u * (d - n) + v * n = 0)
theorem CW {p : Pa} {u v n d : Int} {own : Bool} (ar : 0 < p.f.d) (aB : 0 < p.t.d) (hd : 0 < d) : pj (n5 p u v own) n d ↔ pj p n d ∧ jF u v own n d := by
 have cX : u * (d - n) + v * n = (v - u) * n + u * d := by grind
 unfold n5
 by_cases h1 : 0 < v - u
 ·rw [if_pos h1];unfold pj;rw [TK ar h1 hd]
  have : qe ⟨-u, v - u, own⟩ n d ↔ jF u v own n d := by
   unfold qe jF;simp only;have aF : -u * d = -(u * d) := by grind
   have aM : n * (v - u) = (v - u) * n := by grind
   rw [cX, aF, aM]
   constructor
   ·rintro (k | ⟨k, l⟩)
    ·exact .inl (by omega)
    ·exact .inr ⟨k, by omega⟩
   ·rintro (k | ⟨k, l⟩)
    ·exact .inl (by omega)
    ·exact .inr ⟨k, by omega⟩
  rw [this]
  constructor
  ·rintro ⟨⟨a, b⟩, c⟩; exact ⟨⟨a, c⟩, b⟩
  ·rintro ⟨⟨a, c⟩, b⟩; exact ⟨⟨a, b⟩, c⟩
 ·rw [if_neg h1]
  by_cases h2 : v - u < 0
  ·rw [if_pos h2];unfold pj;have al : (0 : Int) < -(v - u) := by omega
   rw [U4 aB al hd]
   have : qg ⟨u, -(v - u), own⟩ n d ↔ jF u v own n d := by
    unfold qg jF;simp only;have aM : n * -(v - u) = -((v - u) * n) := by grind
    rw [cX, aM]
    constructor
    ·rintro (k | ⟨k, l⟩)
     ·exact .inl (by omega)
     ·exact .inr ⟨k, by omega⟩
    ·rintro (k | ⟨k, l⟩)
     ·exact .inl (by omega)
     ·exact .inr ⟨k, by omega⟩
   rw [this]
   constructor
   ·rintro ⟨a, b, c⟩; exact ⟨⟨a, b⟩, c⟩
   ·rintro ⟨⟨a, b⟩, c⟩; exact ⟨a, b, c⟩
  ·rw [if_neg h2];have cg : v - u = 0 := by omega
   have dZ : u * (d - n) + v * n = u * d := by rw [cX, cg]; omega
   by_cases an : u < 0 ∨ (u = 0 ∧ own = false)
   ·rw [if_pos an]
    have mE : ¬ jF u v own n d := by
     unfold jF;rw [dZ];rcases an with an | ⟨rfl, rfl⟩
     ·have := oT an hd;omega
     ·simp
    refine ⟨fun k => absurd k ?_, fun k => absurd k.2 mE⟩;unfold pj qe qg;simp;omega
   ·rw [if_neg an]
    have Zg : jF u v own n d := by
     unfold jF;rw [dZ]
     by_cases aE : u = 0
     ·subst aE;right;refine ⟨?_, by simp⟩;cases own with
      | true => rfl
      | false => exact absurd (.inr ⟨rfl, rfl⟩) an
     ·left;have : 0 < u := by omega
      have := oT this hd;omega
    exact ⟨fun k => ⟨k, Zg⟩, fun k => k.1⟩
theorem aap {x y : hR} (aa : 0 < x.d) (ai : 0 < y.d) : 0 < (qP x y).d := by unfold qP; split <;> assumption
theorem V9 {x y : hR} (aa : 0 < x.d) (ai : 0 < y.d) : 0 < (qv x y).d := by unfold qv; split <;> assumption
theorem vt {p : Pa} {u v : Int} {own : Bool} (ar : 0 < p.f.d) (aB : 0 < p.t.d) : 0 < (n5 p u v own).f.d ∧ 0 < (n5 p u v own).t.d := by
 unfold n5
 by_cases h1 : 0 < v - u
 ·rw [if_pos h1]; exact ⟨aap ar h1, aB⟩
 ·rw [if_neg h1]
  by_cases h2 : v - u < 0
  ·rw [if_pos h2]; exact ⟨ar, V9 aB (by simp only; omega)⟩
  ·rw [if_neg h2]
   split
   ·exact ⟨by decide, by decide⟩
   ·exact ⟨ar, aB⟩
def Oz (x y : hR) : Int := x.n * y.d + y.n * x.d
def HC (x y : hR) : Int := x.d * y.d + x.d * y.d
theorem aa4 {p : Pa} (ar : 0 < p.f.d) (aB : 0 < p.t.d) (h : p.f.n * p.t.d < p.t.n * p.f.d) : 0 < HC p.f p.t ∧ pj p (Oz p.f p.t) (HC p.f p.t) := by
 unfold Oz HC pj qe qg;have hm : 0 < p.f.d * p.t.d := Int.mul_pos ar aB;refine ⟨by omega, .inl ?_, .inl ?_⟩
 ·have := oT h ar;grind
 ·have := oT h aB;grind
theorem UN {p : Pa} (ar : 0 < p.f.d) (aB : 0 < p.t.d) : wx p = true ↔ ∃ n d, 0 < d ∧ pj p n d := by
 unfold wx;simp only [pX, dc, cq]
 constructor
 ·intro h;rcases BH p.f p.t with ⟨t, c⟩ | ⟨t, c⟩ | ⟨t, c⟩
  ·obtain ⟨h1, h2⟩ := aa4 ar aB t;exact ⟨_, _, h1, h2⟩
  ·rcases h with h | ⟨⟨_, h1⟩, h2⟩
   ·omega
   ·exact ⟨p.f.n, p.f.d, ar, .inr ⟨h1, rfl⟩, .inr ⟨h2, t⟩⟩
  ·rcases h with h | ⟨⟨h, _⟩, _⟩ <;> omega
 ·rintro ⟨n, d, hd, h1, h2⟩;rcases BH p.f p.t with ⟨t, c⟩ | ⟨t, c⟩ | ⟨t, c⟩
  ·exact .inl c
  ·right;refine ⟨⟨c, ?_⟩, ?_⟩
   ·rcases h1 with h1 | ⟨h1, _⟩
    ·exfalso;rcases h2 with h2 | ⟨_, h2⟩
     ·have := uY ar hd aB h1 h2; omega
     ·have := wQ ar hd aB h1 h2; omega
    ·exact h1
   ·rcases h2 with h2 | ⟨h2, _⟩
    ·exfalso;rcases h1 with h1 | ⟨_, h1⟩
     ·have := uY ar hd aB h1 h2; omega
     ·have := wP ar hd aB h1 h2; omega
    ·exact h2
  ·exfalso;rcases h1 with h1 | ⟨_, h1⟩ <;> rcases h2 with h2 | ⟨_, h2⟩
   ·have := uY ar hd aB h1 h2; omega
   ·have := wQ ar hd aB h1 h2; omega
   ·have := wP ar hd aB h1 h2; omega
   ·have := FO ar hd aB h1 h2; omega
def td (b3 v1 b7 v2 fq v3 gQ v4 : Int) (o p : Bool) : Pa := n5 (n5 (n5 (n5 uK b3 v1 o) b7 v2 o) fq v3 p) gQ v4 p
theorem VE (b3 v1 b7 v2 fq v3 gQ v4 : Int) (o p : Bool) : 0 < (td b3 v1 b7 v2 fq v3 gQ v4 o p).f.d ∧ 0 < (td b3 v1 b7 v2 fq v3 gQ v4 o p).t.d := by
 unfold td;have h1 := vt (p := uK) (u := b3) (v := v1) (own := o) (by decide) (by decide);have h2 := vt (u := b7) (v := v2) (own := o) h1.1 h1.2;have an := vt (u := fq) (v := v3) (own := p) h2.1 h2.2;exact vt (u := gQ) (v := v4) (own := p) an.1 an.2
theorem Ue {n d : Int} (hd : 0 < d) : pj uK n d ↔ 0 ≤ n ∧ n ≤ d := by
 unfold pj qe qg uK;simp;omega
theorem Lf {b3 v1 b7 v2 fq v3 gQ v4 n d : Int} {o p : Bool} (hd : 0 < d) : pj (td b3 v1 b7 v2 fq v3 gQ v4 o p) n d ↔ (0 ≤ n ∧ n ≤ d) ∧ jF b3 v1 o n d ∧ jF b7 v2 o n d ∧ jF fq v3 p n d ∧ jF gQ v4 p n d := by
 unfold td;have h1 := vt (p := uK) (u := b3) (v := v1) (own := o) (by decide) (by decide);have h2 := vt (u := b7) (v := v2) (own := o) h1.1 h1.2;have an := vt (u := fq) (v := v3) (own := p) h2.1 h2.2;rw [CW an.1 an.2 hd, CW h2.1 h2.2 hd, CW h1.1 h1.2 hd, CW (by decide) (by decide) hd, Ue hd];simp only [and_assoc]
def Met (b3 v1 b7 v2 fq v3 gQ v4 : Int) (o p : Bool) : Prop := ∃ n d, 0 < d ∧ (0 ≤ n ∧ n ≤ d) ∧ jF b3 v1 o n d ∧ jF b7 v2 o n d ∧ jF fq v3 p n d ∧ jF gQ v4 p n d
theorem VD (b3 v1 b7 v2 fq v3 gQ v4 : Int) (o p : Bool) : wx (td b3 v1 b7 v2 fq v3 gQ v4 o p) = true ↔ Met b3 v1 b7 v2 fq v3 gQ v4 o p := by
 obtain ⟨h1, h2⟩ := VE b3 v1 b7 v2 fq v3 gQ v4 o p;rw [UN h1 h2]
 constructor
 ·rintro ⟨n, d, hd, h⟩; exact ⟨n, d, hd, (Lf hd).1 h⟩
 ·rintro ⟨n, d, hd, h⟩; exact ⟨n, d, hd, (Lf hd).2 h⟩
def wg (X Y W a1 a2 b1 b2 : Int) : Prop := ∃ n d, 0 < d ∧ (0 ≤ n ∧ n ≤ d) ∧ X * d = W * (a1 * (d - n) + b1 * n) ∧ Y * d = W * (a2 * (d - n) + b2 * n)
theorem HZ {p1 p2 a1 a2 b1 b2 : Int} (h : cG p1 p2 a1 a2 b1 b2) : wg p1 p2 1 a1 a2 b1 b2 := by
 obtain ⟨aD, h1, h2, an, aE⟩ := h;unfold bW at aD;unfold fU at h1 an;unfold fT at h2 aE;rcases Int.lt_trichotomy a1 b1 with g | g | g
 ·rw [if_neg (by omega)] at h1; rw [if_pos (show b1 > a1 from g)] at h2;exact ⟨p1 - a1, b1 - a1, by omega, by omega, by grind, by grind⟩
 ·subst g;rcases Int.lt_trichotomy a2 b2 with g | g | g
  ·rw [if_neg (by omega)] at an; rw [if_pos (show b2 > a2 from g)] at aE;have : p1 = a1 := by split at h1 <;> split at h2 <;> omega
   exact ⟨p2 - a2, b2 - a2, by omega, by omega, by grind, by grind⟩
  ·subst g;have aF : p1 = a1 := by split at h1 <;> split at h2 <;> omega
   have aM : p2 = a2 := by split at an <;> split at aE <;> omega
   exact ⟨0, 1, by omega, by omega, by grind, by grind⟩
  ·rw [if_pos g] at an; rw [if_neg (by omega)] at aE;have : p1 = a1 := by split at h1 <;> split at h2 <;> omega
   exact ⟨a2 - p2, a2 - b2, by omega, by omega, by grind, by grind⟩
 ·rw [if_pos g] at h1; rw [if_neg (by omega)] at h2;exact ⟨a1 - p1, a1 - b1, by omega, by omega, by grind, by grind⟩
theorem IL {v W : Int} (dS : 0 < W) (h : 0 ≤ v * W) : 0 ≤ v := by
 refine Int.not_lt.1 fun bg => ?_;have := Int.mul_lt_mul_of_pos_right bg dS;omega
theorem afT {v W : Int} (dS : 0 < W) (h : 0 < v * W) : 0 < v := by
 refine Int.not_le.1 fun hle => ?_;have := n8 hle (show 0 ≤ W by omega);omega
theorem Il {X Y W a1 a2 b1 b2 l1 l2 h1 h2 : Int} (dS : 0 < W) (h : wg X Y W a1 a2 b1 b2) (g1 : l1 * W ≤ 2 * X) (g2 : l2 * W ≤ 2 * Y) (g3 : 2 * X < h1 * W) (g4 : 2 * Y < h2 * W) :
  Met (2 * a1 - l1) (2 * b1 - l1) (2 * a2 - l2) (2 * b2 - l2) (h1 - 2 * a1) (h1 - 2 * b1) (h2 - 2 * a2) (h2 - 2 * b2) true false := by
 obtain ⟨n, d, hd, ax, aF, aM⟩ := h
 have low : ∀ {X a b l : Int}, X * d = W * (a * (d - n) + b * n) → l * W ≤ 2 * X → jF (2 * a - l) (2 * b - l) true n d := fun {X a b l} e g => by
  have k := gM (show 0 ≤ d by omega) (show 0 ≤ 2 * X - l * W by omega);have bq : ((2 * a - l) * (d - n) + (2 * b - l) * n) * W = d * (2 * X - l * W) := by grind
  rw [← bq] at k;rcases Int.lt_or_eq_of_le (IL dS k) with h | h
  ·exact .inl h
  ·exact .inr ⟨rfl, h.symm⟩
 have high : ∀ {X a b l : Int}, X * d = W * (a * (d - n) + b * n) → 2 * X < l * W → jF (l - 2 * a) (l - 2 * b) false n d := fun {X a b l} e g => by
  have k := Int.mul_pos hd (show 0 < l * W - 2 * X by omega);have bq : ((l - 2 * a) * (d - n) + (l - 2 * b) * n) * W = d * (l * W - 2 * X) := by grind
  rw [← bq] at k;exact .inl (afT dS k)
 exact ⟨n, d, hd, ax, low aF g1, low aM g2, high aF g3, high aM g4⟩
theorem Qv {X Y W a1 a2 b1 b2 : Int} (h : wg X Y W a1 a2 b1 b2) : (b1 - a1) * (Y - a2 * W) = (b2 - a2) * (X - a1 * W) := by
 obtain ⟨n, d, hd, ax, aF, aM⟩ := h;have : d * ((b1 - a1) * (Y - a2 * W) - (b2 - a2) * (X - a1 * W)) = 0 := by grind
 rcases sD.1 this with h | h
 ·omega
 ·omega
theorem Ol {a1 a2 b1 b2 c1 c2 d1 d2 X Y W bh : Int} (h : cT a1 a2 b1 b2 c1 c2 d1 d2 ≠ 0) (e : kG a1 a2 b1 b2 c1 c2 d1 d2 = gl X W Y bh) : bh = W ∧ 0 < W ∧ wg X Y W c1 c2 d1 d2 := by
 obtain ⟨_, bU⟩ := RW h;unfold kG pS at e
 split at e
 ·rename_i aE;obtain ⟨_, _, bl, bJ⟩ := aE;have aF := congrArg eI.n e;have aM := congrArg eI.d e;have cg := congrArg eI.m e;have dZ := congrArg eI.e e;simp only [gl] at aF aM cg dZ;have u3 := HM a1 a2 b1 b2 c1 c2 d1 d2;have wU := HN a1 a2 b1 b2 c1 c2 d1 d2;have hw := I7 a1 a2 b1 b2 c1 c2 d1 d2;rw [← aM, ← dZ];refine ⟨rfl, O9 h, ?_⟩;rw [rJ] at bl bJ;unfold hW at aF cg bl bJ;unfold hy at bl bJ ⊢
  by_cases hs : cT a1 a2 b1 b2 c1 c2 d1 d2 < 0
  ·rw [if_pos hs] at aF cg bl bJ ⊢;rw [if_pos hs] at bl bJ
   have := (BB (x := d1) (y := c1) (u := d2) (v := c2) (A := -bW a1 a2 b1 b2 d1 d2) (B := -bW a1 a2 b1 b2 c1 c2) (D := -cT a1 a2 b1 b2 c1 c2 d1 d2) (by omega) (by omega) (by omega)).1 ⟨by
    rw [show c1 * -bW a1 a2 b1 b2 d1 d2 - d1 * -bW a1 a2 b1 b2 c1 c2 = -jr a1 a2 b1 b2 c1 c2 d1 d2 by grind]; exact bl, by
    rw [show c2 * -bW a1 a2 b1 b2 d1 d2 - d2 * -bW a1 a2 b1 b2 c1 c2 = -js a1 a2 b1 b2 c1 c2 d1 d2 by grind]; exact bJ⟩
   exact ⟨bW a1 a2 b1 b2 c1 c2, -cT a1 a2 b1 b2 c1 c2 d1 d2, by omega, by omega, by rw [← aF]; grind, by rw [← cg]; grind⟩
  ·rw [if_neg hs] at aF cg bl bJ ⊢;rw [if_neg hs] at bl bJ
   have := (BB (x := d1) (y := c1) (u := d2) (v := c2) (A := bW a1 a2 b1 b2 d1 d2) (B := bW a1 a2 b1 b2 c1 c2) (D := cT a1 a2 b1 b2 c1 c2 d1 d2) (by omega) (by omega) (by omega)).1 ⟨by
    rw [u3]; exact bl, by
    rw [wU]; exact bJ⟩
   exact ⟨-bW a1 a2 b1 b2 c1 c2, cT a1 a2 b1 b2 c1 c2 d1 d2, by omega, by omega, by rw [← aF]; grind, by rw [← cg]; grind⟩
 ·have := congrArg eI.k e;simp [e7, gl] at this
theorem C4 {a1 a2 b1 b2 c1 c2 d1 d2 X Y W bh : Int} (e : fm a1 a2 b1 b2 c1 c2 d1 d2 = gl X W Y bh) : bh = W ∧ 0 < W ∧ wg X Y W a1 a2 b1 b2 ∧ wg X Y W c1 c2 d1 d2 ∧ (∀ p1 p2, cG p1 p2 a1 a2 b1 b2 → cG p1 p2 c1 c2 d1 d2 → X = p1 * W ∧ Y = p2 * W) := by
 unfold fm at e
 split at e
 ·rename_i hw;unfold pQ inl at e
  split at e
  ·rename_i vg;obtain ⟨o1, o2⟩ := vg;unfold pP at e
   split at e
   ·rename_i tu;have aF := congrArg eI.n e;have aM := congrArg eI.d e;have cg := congrArg eI.m e;have dZ := congrArg eI.e e;simp only [gl] at aF aM cg dZ;subst aM; subst dZ;rw [tV] at o1 o2;rw [aF, cg] at o1 o2;refine ⟨rfl, by decide, HZ o1, HZ o2, fun p1 p2 hp al => ?_⟩
    have GQ : mL (cV a1 a2 b1 b2) (cI a1 a2 b1 b2) (cR a1 a2 b1 b2) (cH a1 a2 b1 b2) (cV c1 c2 d1 d2) (cI c1 c2 d1 d2) (cR c1 c2 d1 d2) (cH c1 c2 d1 d2) = 0 := by
     rw [AL] at hw;rcases hr a1 a2 b1 b2 with ⟨h1, h2, an, aE, _⟩ | ⟨h1, h2, an, aE, _⟩ <;> rcases hr c1 c2 d1 d2 with ⟨bl, bJ, e6, gH, _⟩ | ⟨bl, bJ, e6, gH, _⟩ <;> rw [h1, h2, an, aE, bl, bJ, e6, gH] <;> unfold mL at hw ⊢ <;> grind
    obtain ⟨_, _, _, _, l1, l2⟩ := CZ (qR a1 a2 b1 b2) (qR c1 c2 d1 d2) GQ (tV.2 hp) (tV.2 al);rw [← tu.1, ← tu.2] at l2;have := cM.wy l1 l2;omega
   ·have := congrArg eI.k e;simp [kc, gl] at this
  ·have := congrArg eI.k e;simp [e7, gl] at this
 ·rename_i hw;obtain ⟨g1, g2, g3⟩ := Ol hw e;have oM : cT c1 c2 d1 d2 a1 a2 b1 b2 ≠ 0 := by rw [xU]; omega
  obtain ⟨_, _, g4⟩ := Ol oM (by rw [Om hw]; exact e);refine ⟨g1, g2, g4, g3, fun p1 p2 hp al => ?_⟩;have l1 := Qv g4;have l2 := Qv g3;have q1 := hp.1;have q2 := al.1;unfold bW at q1 q2
  have line : ∀ {a1 a2 b1 b2 : Int}, (b1 - a1) * (Y - a2 * W) = (b2 - a2) * (X - a1 * W) → (b1 - a1) * (p2 - a2) - (b2 - a2) * (p1 - a1) = 0 → (b1 - a1) * (Y - p2 * W) = (b2 - a2) * (X - p1 * W) := fun {a1 a2 b1 b2} l q => by
   have z : (b1 - a1) * (Y - p2 * W) - (b2 - a2) * (X - p1 * W) = ((b1 - a1) * (Y - a2 * W) - (b2 - a2) * (X - a1 * W)) - ((b1 - a1) * (p2 - a2) - (b2 - a2) * (p1 - a1)) * W := by grind
   rw [q, l, Int.zero_mul] at z;omega
  have m1 := line l1 q1;have m2 := line l2 q2
  have eW : cT a1 a2 b1 b2 c1 c2 d1 d2 * (X - p1 * W) = 0 := by
   have z : cT a1 a2 b1 b2 c1 c2 d1 d2 * (X - p1 * W) = (b1 - a1) * ((d2 - c2) * (X - p1 * W)) - (d1 - c1) * ((b2 - a2) * (X - p1 * W)) := by unfold cT; grind
   rw [z, ← m1, ← m2, Int.mul_left_comm];omega
  have z2 : cT a1 a2 b1 b2 c1 c2 d1 d2 * (Y - p2 * W) = 0 := by
   have z : cT a1 a2 b1 b2 c1 c2 d1 d2 * (Y - p2 * W) = (d2 - c2) * ((b1 - a1) * (Y - p2 * W)) - (b2 - a2) * ((d1 - c1) * (Y - p2 * W)) := by unfold cT; grind
   rw [z, m1, m2, Int.mul_left_comm];omega
  have kL := (sD.1 eW).resolve_left hw;have qd := (sD.1 z2).resolve_left hw;omega
theorem aaY {a1 a2 b1 b2 c1 c2 d1 d2 gq fj h7 iP : Int} (e : fm a1 a2 b1 b2 c1 c2 d1 d2 = kc gq fj h7 iP) : cG gq fj a1 a2 b1 b2 ∧ cG gq fj c1 c2 d1 d2 ∧ cG h7 iP a1 a2 b1 b2 ∧ cG h7 iP c1 c2 d1 d2 ∧ ¬ (gq = h7 ∧ fj = iP) ∧ ((gq = cV a1 a2 b1 b2 ∧ fj = cI a1 a2 b1 b2) ∨ (gq = cV c1 c2 d1 d2 ∧ fj = cI c1 c2 d1 d2)) ∧ ((h7 = cR a1 a2 b1 b2 ∧ iP = cH a1 a2 b1 b2) ∨ (h7 = cR c1 c2 d1 d2 ∧ iP = cH c1 c2 d1 d2)) := by
 unfold fm at e
 split at e
 ·rename_i hw;unfold pQ inl at e
  split at e
  ·rename_i vg;obtain ⟨o1, o2⟩ := vg;unfold pP at e
   split at e
   ·have := congrArg eI.k e;simp [kc, gl] at this
   ·rename_i tu;have aF := congrArg eI.p1 e;have aM := congrArg eI.p2 e;have cg := congrArg eI.q1 e;have dZ := congrArg eI.q2 e;simp only [kc] at aF aM cg dZ
    have GQ : mL (cV a1 a2 b1 b2) (cI a1 a2 b1 b2) (cR a1 a2 b1 b2) (cH a1 a2 b1 b2) (cV c1 c2 d1 d2) (cI c1 c2 d1 d2) (cR c1 c2 d1 d2) (cH c1 c2 d1 d2) = 0 := by
     rw [AL] at hw;rcases hr a1 a2 b1 b2 with ⟨h1, h2, an, aE, _⟩ | ⟨h1, h2, an, aE, _⟩ <;> rcases hr c1 c2 d1 d2 with ⟨bl, bJ, e6, gH, _⟩ | ⟨bl, bJ, e6, gH, _⟩ <;> rw [h1, h2, an, aE, bl, bJ, e6, gH] <;> unfold mL at hw ⊢ <;> grind
    obtain ⟨b3, b7, fq, gQ, _, _⟩ := CZ (qR a1 a2 b1 b2) (qR c1 c2 d1 d2) GQ o1 o2;rw [tV] at b3 b7 fq gQ;rw [aF, aM] at b3 b7;rw [cg, dZ] at fq gQ;refine ⟨b3, b7, fq, gQ, by rw [← aF, ← aM, ← cg, ← dZ]; exact tu, ?_, ?_⟩
    ·rw [← aF, ← aM];rcases hr (cV a1 a2 b1 b2) (cI a1 a2 b1 b2) (cV c1 c2 d1 d2) (cI c1 c2 d1 d2) with ⟨_, _, an, aE, _⟩ | ⟨_, _, an, aE, _⟩
     ·exact .inr ⟨an, aE⟩
     ·exact .inl ⟨an, aE⟩
    ·rw [← cg, ← dZ];rcases hr (cR a1 a2 b1 b2) (cH a1 a2 b1 b2) (cR c1 c2 d1 d2) (cH c1 c2 d1 d2) with ⟨an, aE, _⟩ | ⟨an, aE, _⟩
     ·exact .inl ⟨an, aE⟩
     ·exact .inr ⟨an, aE⟩
  ·have := congrArg eI.k e;simp [e7, kc] at this
 ·unfold kG pS at e
  split at e
  ·have := congrArg eI.k e;simp [gl, kc] at this
  ·have := congrArg eI.k e;simp [e7, kc] at this
def sS (S : Int) (p q x : Int × Int) : Prop := Met (2 * (S * p.1) - (2 * (S * x.1) - S)) (2 * (S * q.1) - (2 * (S * x.1) - S)) (2 * (S * p.2) - (2 * (S * x.2) - S)) (2 * (S * q.2) - (2 * (S * x.2) - S)) (2 * (S * x.1) + S - 2 * (S * p.1)) (2 * (S * x.1) + S - 2 * (S * q.1)) (2 * (S * x.2) + S - 2 * (S * p.2)) (2 * (S * x.2) + S - 2 * (S * q.2)) true false
def A6 (S X Y W : Int) (x : Int × Int) : Prop := ((2 * (S * x.1) - S) * W ≤ 2 * X ∧ 2 * X < (2 * (S * x.1) + S) * W) ∧ (2 * (S * x.2) - S) * W ≤ 2 * Y ∧ 2 * Y < (2 * (S * x.2) + S) * W
abbrev EL (S : Int) (x p q : Int × Int) : Prop := cG (S * x.1) (S * x.2) (S * p.1) (S * p.2) (S * q.1) (S * q.2)
theorem Pw (S : Int) (p q : Int × Int) : EL S p p q := by
 refine ⟨BK .., ?_⟩;unfold qL fU fT
 split <;> split <;> split <;> split <;> omega
theorem Px (S : Int) (p q : Int × Int) : EL S q p q := by
 refine ⟨Ft .., ?_⟩;unfold qL fU fT
 split <;> split <;> split <;> split <;> omega
theorem Pv {S : Int} (hS : 0 < S) {x p q : Int × Int} (h : EL S x p q) : sS S p q x :=
 Il (by decide) (HZ h) (by omega) (by omega) (by omega) (by omega)
theorem aa1 {S : Int} (hS : 0 < S) {p q eB bX x : Int × Int} {X Y W bh : Int} (e : fm (S * p.1) (S * p.2) (S * q.1) (S * q.2) (S * eB.1) (S * eB.2) (S * bX.1) (S * bX.2) = gl X W Y bh) (aa : A6 S X Y W x) (h1 : sS S p q x → x = p ∨ x = q) (h2 : sS S eB bX x → x = eB ∨ x = bX) :
  (x = p ∨ x = q) ∧ (x = eB ∨ x = bX) ∧ X = S * x.1 * W ∧ Y = S * x.2 * W := by
 obtain ⟨_, dS, g1, g2, g3⟩ := C4 e;obtain ⟨⟨b1, b2⟩, ed, dM⟩ := aa;have bl := h1 (Il dS g1 b1 ed b2 dM);have bJ := h2 (Il dS g2 b1 ed b2 dM);refine ⟨bl, bJ, g3 _ _ ?_ ?_⟩
 ·rcases bl with rfl | rfl
  ·exact Pw ..
  ·exact Px ..
 ·rcases bJ with rfl | rfl
  ·exact Pw ..
  ·exact Px ..
theorem UM {S : Int} (hS : 0 < S) {p q eB bX : Int × Int} {gq fj h7 iP : Int} (e : fm (S * p.1) (S * p.2) (S * q.1) (S * q.2) (S * eB.1) (S * eB.2) (S * bX.1) (S * bX.2) = kc gq fj h7 iP) (h1 : ∀ x, (x = eB ∨ x = bX) → sS S p q x → x = p ∨ x = q) (h2 : ∀ x, (x = p ∨ x = q) → sS S eB bX x → x = eB ∨ x = bX) :
  (p = eB ∧ q = bX) ∨ (p = bX ∧ q = eB) := by
 obtain ⟨g1, g2, g3, g4, g5, g6, g7⟩ := aaY e
 have key : ∀ {ba ec : Int}, cG ba ec (S * p.1) (S * p.2) (S * q.1) (S * q.2) → cG ba ec (S * eB.1) (S * eB.2) (S * bX.1) (S * bX.2) → ((∃ x, (x = p ∨ x = q) ∧ ba = S * x.1 ∧ ec = S * x.2) ∨ ∃ x, (x = eB ∨ x = bX) ∧ ba = S * x.1 ∧ ec = S * x.2) → ∃ x, (x = p ∨ x = q) ∧ (x = eB ∨ x = bX) ∧ ba = S * x.1 ∧ ec = S * x.2 := fun {ba ec} o1 o2 h => by
  rcases h with ⟨x, aa, rfl, rfl⟩ | ⟨x, aa, rfl, rfl⟩
  ·exact ⟨x, aa, h2 x aa (Pv hS o2), rfl, rfl⟩
  ·exact ⟨x, h1 x aa (Pv hS o1), aa, rfl, rfl⟩
 have lo : ∀ (u v : Int × Int), ∃ x, (x = u ∨ x = v) ∧ cV (S * u.1) (S * u.2) (S * v.1) (S * v.2) = S * x.1 ∧ cI (S * u.1) (S * u.2) (S * v.1) (S * v.2) = S * x.2 := fun u v => by
  rcases hr (S * u.1) (S * u.2) (S * v.1) (S * v.2) with ⟨h1, h2, _⟩ | ⟨h1, h2, _⟩
  ·exact ⟨u, .inl rfl, h1, h2⟩
  ·exact ⟨v, .inr rfl, h1, h2⟩
 have hi : ∀ (u v : Int × Int), ∃ x, (x = u ∨ x = v) ∧ cR (S * u.1) (S * u.2) (S * v.1) (S * v.2) = S * x.1 ∧ cH (S * u.1) (S * u.2) (S * v.1) (S * v.2) = S * x.2 := fun u v => by
  rcases hr (S * u.1) (S * u.2) (S * v.1) (S * v.2) with ⟨_, _, h1, h2, _⟩ | ⟨_, _, h1, h2, _⟩
  ·exact ⟨v, .inr rfl, h1, h2⟩
  ·exact ⟨u, .inl rfl, h1, h2⟩
 obtain ⟨x, ct, cz, h4, ml⟩ := key g1 g2 (by
  rcases g6 with ⟨aF, aM⟩ | ⟨aF, aM⟩
  ·obtain ⟨z, eW, z2, z3⟩ := lo p q; exact .inl ⟨z, eW, by rw [aF, z2], by rw [aM, z3]⟩
  ·obtain ⟨z, eW, z2, z3⟩ := lo eB bX; exact .inr ⟨z, eW, by rw [aF, z2], by rw [aM, z3]⟩)
 obtain ⟨y, kL, qd, ahe, ahf⟩ := key g3 g4 (by
  rcases g7 with ⟨aF, aM⟩ | ⟨aF, aM⟩
  ·obtain ⟨z, eW, z2, z3⟩ := hi p q; exact .inl ⟨z, eW, by rw [aF, z2], by rw [aM, z3]⟩
  ·obtain ⟨z, eW, z2, z3⟩ := hi eB bX; exact .inr ⟨z, eW, by rw [aF, z2], by rw [aM, z3]⟩)
 have bU : x ≠ y := fun h => g5 (by subst h; exact ⟨by rw [h4, ahe], by rw [ml, ahf]⟩);rcases ct with rfl | rfl <;> rcases kL with rfl | rfl
 ·exact absurd rfl bU
 ·rcases cz with rfl | rfl <;> rcases qd with rfl | rfl
  ·exact absurd rfl bU
  ·exact .inl ⟨rfl, rfl⟩
  ·exact .inr ⟨rfl, rfl⟩
  ·exact absurd rfl bU
 ·rcases cz with rfl | rfl <;> rcases qd with rfl | rfl
  ·exact absurd rfl bU
  ·exact .inr ⟨rfl, rfl⟩
  ·exact .inl ⟨rfl, rfl⟩
  ·exact absurd rfl bU
 ·exact absurd rfl bU
end Go.Proofs.YtbcecodakfejaaaGreat
namespace Go.Proofs.YtbcecodakfejaaaGreat.bu
abbrev fj := Int × Int
abbrev vv (S : Int) (l m : fj × fj) : eI := fm (S * l.1.1) (S * l.1.2) (S * l.2.1) (S * l.2.2) (S * m.1.1) (S * m.1.2) (S * m.2.1) (S * m.2.2)
def pq (l m : fj × fj) : Prop := l.1 = m.1 ∨ l.1 = m.2 ∨ l.2 = m.1 ∨ l.2 = m.2
structure wk (S : Int) (o : cU fj) : Prop where
 pos : 0 < S
 Yf : ∀ p q x, o.Cn p q x = true → sS S p q x
 MU : ∀ p q x, o.hh p → o.hh q → o.hh x → sS S p q x → o.Cn p q x = true
 Ld : ∀ l m x, o.cut l m = some x → ¬ pq l m ∧ ∃ X Y W bh, vv S l m = gl X W Y bh ∧ A6 S X Y W x
 Le : ∀ l m, o.hh l.1 → o.hh l.2 → o.hh m.1 → o.hh m.2 → o.cut l m = none → (vv S l m).k = 1 → pq l m
theorem wk.own {S : Int} {o : cU fj} (h : wk S o) {hot : List fj} (aq : ∀ y ∈ hot, o.hh y) {p q x : fj} (hp : p ∈ hot) (al : q ∈ hot) (aa : x ∈ hot) (hs : rC o hot p q) (hm : sS S p q x) : x = p ∨ x = q := by
 have h1 := hs x aa;have h2 := h.MU p q x (aq _ hp) (aq _ al) (aq _ aa) hm;unfold jl at h1;rw [h2, Bool.and_true, Bool.and_eq_false_iff] at h1;rcases h1 with h1 | h1
 ·exact .inl (by simpa using h1)
 ·exact .inr (by simpa using h1)
theorem wk.VG {S : Int} {o : cU fj} (h : wk S o) (hot : List fj) (p q eB bX x : fj) (aq : ∀ y ∈ hot, o.hh y) (hp : p ∈ hot) (al : q ∈ hot) (oJ : eB ∈ hot) (nX : bX ∈ hot) (hs : rC o hot p q) (xe : rC o hot eB bX) (aj : o.cut (p, q) (eB, bX) = some x) : x ∉ hot := fun aa => by
 obtain ⟨ax, X, Y, W, bh, e, kh⟩ := h.Ld _ _ _ aj;obtain ⟨g1, g2, _⟩ := aa1 h.pos e kh (h.own aq hp al aa hs) (h.own aq oJ nX aa xe);refine ax ?_;unfold pq;rcases g1 with rfl | rfl <;> rcases g2 with g2 | g2
 ·exact .inl g2
 ·exact .inr (.inl g2)
 ·exact .inr (.inr (.inl g2))
 ·exact .inr (.inr (.inr g2))
theorem VT {S : Int} {o : cU fj} {ok : Nat → List fj × List Int → Prop} (h : wk S o) (af : j9 o ok) {s : aV fj} (ab : jG o s) (hi : sT o ok s) {a b : Nat} {l m : fj × fj} (aJ : (aW s.ch)[a]? = some l) (c4 : (aW s.ch)[b]? = some m) (jm : a < b) :
  ((vv S l m).k = 1 → pq l m) ∧ ((vv S l m).k = 2 → l = m ∨ l = (m.2, m.1)) := by
 obtain ⟨_, a1, a2⟩ := tI af hi.laid (c7 aJ);obtain ⟨_, b1, b2⟩ := tI af hi.laid (c7 c4);refine ⟨h.Le l m (ab.fb _ a1) (ab.fb _ a2) (ab.fb _ b1) (ab.fb _ b2) (abN hi aJ c4 jm), fun h2 => ?_⟩;have hs := hi.RA l (c7 aJ);have xe := hi.RA m (c7 c4)
 have e : ∃ gq JA h7 iP, vv S l m = kc gq JA h7 iP := by
  unfold vv fm at h2 ⊢
  split at h2
  ·rename_i hw;rw [if_pos hw];unfold pQ inl at h2 ⊢
   split at h2
   ·rename_i vg;rw [if_pos vg];unfold pP at h2 ⊢
    split at h2
    ·simp [gl] at h2
    ·rename_i bU;rw [if_neg bU];exact ⟨_, _, _, _, rfl⟩
   ·simp [e7] at h2
  ·unfold kG pS at h2
   split at h2
   ·simp [gl] at h2
   ·simp [e7] at h2
 obtain ⟨gq, JA, h7, iP, e⟩ := e;have := UM h.pos e (fun x aa hm => h.own ab.fb a1 a2 (aa.elim (fun e => by rw [e]; exact b1) fun e => by rw [e]; exact b2) hs hm) (fun x aa hm => h.own ab.fb b1 b2 (aa.elim (fun e => by rw [e]; exact a1) fun e => by rw [e]; exact a2) xe hm);rcases this with ⟨aF, aM⟩ | ⟨aF, aM⟩
 ·exact .inl (Prod.ext aF aM)
 ·exact .inr (Prod.ext aF aM)
end Go.Proofs.YtbcecodakfejaaaGreat.bu
namespace Go.Proofs.YtbcecodakfejaaaGreat
def gm (S X W : Int) : Int := (2 * X + S * W) / (2 * (S * W))
theorem DM {S W : Int} (hS : 0 < S) (dS : 0 < W) (X : Int) : (2 * (S * gm S X W) - S) * W ≤ 2 * X ∧ 2 * X < (2 * (S * gm S X W) + S) * W := by
 have Xk := Int.mul_pos hS dS;unfold gm;have h1 := pZ (2 * X + S * W) (2 * (S * W));have h2 := n9 (2 * X + S * W) (show 2 * (S * W) ≠ 0 by omega);have an := nF (2 * X + S * W) (show 0 < 2 * (S * W) by omega);generalize (2 * X + S * W) / (2 * (S * W)) = g at *;generalize (2 * X + S * W) % (2 * (S * W)) = m at *;have aF : (2 * (S * g) - S) * W = 2 * (S * W) * g - S * W := by grind
 have aM : (2 * (S * g) + S) * W = 2 * (S * W) * g + S * W := by grind
 omega
theorem Zt {S X Y W : Int} (hS : 0 < S) (dS : 0 < W) : A6 S X Y W (gm S X W, gm S Y W) := ⟨DM hS dS X, DM hS dS Y⟩
theorem QH {S X W n d p q g : Int} (hS : 0 < S) (dS : 0 < W) (hd : 0 < d) (ax : 0 ≤ n ∧ n ≤ d) (e : X * d = W * (S * p * (d - n) + S * q * n)) (h1 : (2 * (S * g) - S) * W ≤ 2 * X) (h2 : 2 * X < (2 * (S * g) + S) * W) : (p ≤ q → p ≤ g ∧ g ≤ q) ∧ (q ≤ p → q ≤ g ∧ g ≤ p) := by
 have Xk := Int.mul_pos hS dS
 have aaO : ∀ {b : Int}, b ≤ p → b ≤ q → S * W * b ≤ X := fun {b} bl bJ => by
  have m1 := gM (show 0 ≤ S * W by omega) (gM (show 0 ≤ p - b by omega) (show 0 ≤ d - n by omega));have m2 := gM (show 0 ≤ S * W by omega) (gM (show 0 ≤ q - b by omega) ax.1);have bq : (X - S * W * b) * d = S * W * ((p - b) * (d - n)) + S * W * ((q - b) * n) := by grind
  have := IL (v := X - S * W * b) hd (by rw [bq]; omega);omega
 have Ye : ∀ {b : Int}, p ≤ b → q ≤ b → X ≤ S * W * b := fun {b} bl bJ => by
  have m1 := gM (show 0 ≤ S * W by omega) (gM (show 0 ≤ b - p by omega) (show 0 ≤ d - n by omega));have m2 := gM (show 0 ≤ S * W by omega) (gM (show 0 ≤ b - q by omega) ax.1);have bq : (S * W * b - X) * d = S * W * ((b - p) * (d - n)) + S * W * ((b - q) * n) := by grind
  have := IL (v := S * W * b - X) hd (by rw [bq]; omega);omega
 have low : ∀ {b : Int}, b ≤ p → b ≤ q → b ≤ g := fun {b} bl bJ => by
  have u3 := aaO bl bJ;refine Int.not_lt.1 fun bg => ?_;have m := pY (show g + 1 ≤ b by omega) (show 0 ≤ S * W by omega);have aM : (2 * (S * g) + S) * W = 2 * (S * W * (g + 1)) - S * W := by grind
  omega
 have high : ∀ {b : Int}, p ≤ b → q ≤ b → g ≤ b := fun {b} bl bJ => by
  have u3 := Ye bl bJ;refine Int.not_lt.1 fun bg => ?_;have m := pY (show b + 1 ≤ g by omega) (show 0 ≤ S * W by omega);have aF : (2 * (S * g) - S) * W = 2 * (S * W * g) - S * W := by grind
  have cg : S * W * (b + 1) = S * W * b + S * W := by grind
  omega
 exact ⟨fun h => ⟨low (n7 _) h, high h (n7 _)⟩, fun h => ⟨low h (n7 _), high (n7 _) h⟩⟩
def eU (lt : Int × Int → Int × Int → Bool) : List (Int × Int) → List (Int × Int) → List (Int × Int)
 | [], b => b
 | x :: a, [] => x :: a
 | x :: a, y :: b => if lt y x then y :: eU lt (x :: a) b else x :: eU lt a (y :: b)
termination_by a b => a.length + b.length
theorem HJ (lt : Int × Int → Int × Int → Bool) (a : List (Int × Int)) : eU lt a [] = a := by cases a <;> simp [eU]
theorem abg (lt : Int × Int → Int × Int → Bool) (a : List (Int × Int)) : eU lt [] a = a := by simp [eU]
theorem HI (lt : Int × Int → Int × Int → Bool) : ∀ a b, (eU lt a b).length = a.length + b.length := by
 intro a b
 induction a, b using eU.induct lt with
 | case1 b => simp [eU]
 | case2 x a => simp [eU]
 | case3 x a y b h b5 => rw [eU, if_pos h, iI, b5]; simp; omega
 | case4 x a y b h b5 => rw [eU, if_neg h, iI, b5]; simp; omega
def iL (lt : Int × Int → Int × Int → Bool) (l : List (Int × Int)) : List (Int × Int) :=
 if h : l.length < 2 then l else eU lt (iL lt (l.take (l.length / 2))) (iL lt (l.drop (l.length / 2)))
termination_by l.length
decreasing_by all_goals (simp; omega)
theorem Eg (lt : Int × Int → Int × Int → Bool) : ∀ (N : Nat) (l : List (Int × Int)), l.length ≤ N → (iL lt l).length = l.length
 | 0, l, h => by rw [iL, dif_pos (by omega)]
 | N + 1, l, h => by
  rw [iL]
  split
  ·rfl
  ·rw [HI, Eg lt N _ (by simp; omega), Eg lt N _ (by simp; omega)];simp; omega
end Go.Proofs.YtbcecodakfejaaaGreat
namespace Go.Proofs.YtbcecodakfejaaaGreat
open Go.RowKit
structure mX where
 v : Value
 n : Nat
 xs : List Value
section
variable {P : Program} {B qf : eH} {A dR : Nat → Prop} {s s' : aA} {ad : Nat → Nat} {a : Act} {w w' : World}
theorem Rel.uM (h : Rel B A s ad a w) (dx : ∀ b, A b → b < w.heap.size → dR b ∧ w'.heap[b]? = w.heap[b]?) (cp : ∀ k cs, s.mem k = some cs → w'.heap[ad k]? = w.heap[ad k]? ∧ ¬ qf.F (ad k)) (Xz : iN qf w') (G4 : ∀ b, qf.W.heap.size ≤ b → dR b) (ng : rj qf s ad) (vd : qf.marks = B.marks := by rfl) : Rel qf dR s ad a w' := by
 have MB : ∀ b, s.free A ad b → b < w.heap.size → s.free dR ad b ∧ w'.heap[b]? = w.heap[b]? := fun b ab ak => ⟨⟨(dx b ab.1 ak).1, ab.2⟩, (dx b ab.1 ak).2⟩;refine ⟨h.pT.trans vd.symm, h.size, fun t av aB => ?_, fun k cs af => ?_, h.inj, Xz, G4, ng⟩
 ·obtain ⟨v, h1, h2⟩ := h.hf t av aB;exact ⟨v, h1, h2.map MB fun _ _ => rfl⟩
 ·obtain ⟨vs, ty, h1, h2, an⟩ := h.dn k cs af;exact ⟨vs, ty, by rw [(cp k cs af).1]; exact h1, h2.map MB fun _ _ _ _ => rfl, (cp k cs af).2⟩
theorem Rel.Iu {d : Nat} {av bv : ah} (h : Rel B A s ad a w) (hd : s.tmps d = some bv) (hv : ∀ v, a.tmps[d]? = some v → da (s.free A ad) ad w bv v → da (s.free A ad) ad w av v) : Rel B A (s.put (some d) av) ad a w := by
 refine ⟨h.pT, h.size, fun t cv aB => ?_, h.dn, h.inj, h.below, h.up, h.jH⟩;simp only [aA.put] at aB
 by_cases e : t = d
 ·subst e;rw [cx] at aB;cases aB;obtain ⟨v, h1, h2⟩ := h.hf t bv hd;exact ⟨v, h1, hv v h1 h2⟩
 ·rw [cl _ _ e] at aB;exact h.hf t cv aB
def lq (B : eH) (s : aA) (ad : Nat → Nat) (w : World) : eH := ⟨w, fun b => b < w.heap.size ∧ ∀ k cs, s.mem k = some cs → ad k ≠ b, fun _ h => h.1, fun k => if s.n ≤ k then some (ad k) else none, B.marks⟩
theorem u5 {B : eH} (s : aA) (ad : Nat → Nat) (w : World) : rj (lq B s ad w) s ad := fun k b af => by
 simp only [lq] at af
 split at af
 ·rename_i h; exact ⟨h, kJ af⟩
 ·cases af
theorem Kg {a8 : eH} {s s' : aA} {ad aY : Nat → Nat} {w w' : World} {A : Nat → Prop} {a' : Act} (h : rj a8 s ad) (bZ : Rel (lq a8 s ad w) A s' aY a' w') : rj a8 s' aY := fun k b af => by
 obtain ⟨h1, h2⟩ := h k b af;obtain ⟨an, aE⟩ := bZ.jH k (ad k) (by simp [lq, h1]);exact ⟨an, aE.trans h2⟩
theorem Rel.hot (h : Rel B A s ad a w) (G4 : ∀ b, w.heap.size ≤ b → A b) : Rel (lq B s ad w) A s ad a w :=
 h.uM (fun b h _ => ⟨h, rfl⟩) (fun k cs af => ⟨rfl, fun ar => ar.2 k cs af rfl⟩) (iN.refl _) G4 (u5 _ _ _)
theorem H3 {base : Nat} {e : TypeId} {sz : Nat} {v : Value} {n : Nat} {xs : List Value} (h : w.ownsRow base e sz v n xs) (aq : ∀ g, v.ownBlock = some g → w'.heap[g]? = w.heap[g]?) : w'.ownsRow base e sz v n xs := by
 refine ⟨h.1, ?_⟩;rcases h.2 with ax | ⟨g, cap, cur, rfl, ab, pH, rest⟩
 ·exact .inl ax
 ·exact .inr ⟨g, cap, cur, rfl, ab, (aq g rfl).trans pH, rest⟩
end
def lf (a8 : eH) (bp : Nat → Prop) (e sz : Nat) (t : mX) (s : aA) (a : Act) (w : World) : Prop :=
 ∃ A ad, (∀ b, A b → bp b) ∧ Rel (lq a8 s ad w) A s ad a w ∧ (∀ k cs, s.mem k = some cs → ¬ a8.F (ad k)) ∧ iN a8 w ∧ w.ownsRow a8.W.heap.size e sz t.v t.n t.xs ∧ (∀ g, t.v.ownBlock = some g → ¬ A g ∧ ∀ k cs, s.mem k = some cs → ad k ≠ g) ∧ (∀ u ∈ t.xs, u.oneCell' = true) ∧ rj a8 s ad
def nK (P : Program) (e sz : Nat) (c : Code) (Q : Exit → mX → aA → Prop) (t : mX) (s : aA) : Prop :=
 s.cE → ∀ (a8 : eH) bp a w, (∀ b, a8.W.heap.size ≤ b → bp b) → lf a8 bp e sz t s a w → j7 P c (fun x a' w' => ∃ fW s', s'.cE ∧ lf a8 bp e sz fW s' a' w' ∧ Q x fW s') a w
def CD (next : mX → aA → Prop) (Q : Exit → mX → aA → Prop) : Exit → mX → aA → Prop
 | .normal, t, s => next t s
 | e, t, s => Q e t s
def Gi (id : Nat) (Q : Exit → mX → aA → Prop) : Exit → mX → aA → Prop
 | .exit lx, t, s => bif Nat.beq lx id then Q .normal t s else Q (.exit lx) t s
 | e, t, s => Q e t s
section
variable {P : Program} {e sz : Nat} {t : mX} {s : aA} {Q : Exit → mX → aA → Prop} {x y c : Code}
theorem lf.le {a8 : eH} {bp : Nat → Prop} {s' : aA} {a : Act} {w : World} (h : lf a8 bp e sz t s a w) (l : s.aQ s') : lf a8 bp e sz t s' a w := by
 obtain ⟨A, ad, de, aw, cp, ab, az, aq, h1, ng⟩ := h;exact ⟨A, ad, de, (aw.le l).hot aw.up, fun k cs af => cp k cs (l.dn k cs af), ab, az, fun g q => ⟨(aq g q).1, fun k cs af => (aq g q).2 k cs (l.dn k cs af)⟩, h1, fun k b af => by rw [l.n]; exact ng k b af⟩
theorem lf.next {a8 : eH} {bp A : Nat → Prop} {ad aY : Nat → Nat} {a' : Act} {w w' : World} {s' : aA} (de : ∀ b, A b → bp b) (cp : ∀ k cs, s.mem k = some cs → ¬ a8.F (ad k)) (ab : iN a8 w) (az : w.ownsRow a8.W.heap.size e sz t.v t.n t.xs) (aq : ∀ g, t.v.ownBlock = some g → ¬ A g ∧ ∀ k cs, s.mem k = some cs → ad k ≠ g) (h1 : ∀ u ∈ t.xs, u.oneCell' = true) (ng : rj a8 s ad)
  (bZ : Rel (lq a8 s ad w) A s' aY a' w') : lf a8 bp e sz t s' a' w' := by
 have wX : ∀ k cs, s'.mem k = some cs → w.heap.size ≤ aY k ∨ ∃ j cs, s.mem j = some cs ∧ ad j = aY k := by
  intro k cs af;obtain ⟨_, _, _, _, hF⟩ := bZ.dn k cs af;rcases hz (aY k) w.heap.size with ak | ak
  ·exact .inr (Classical.byContradiction fun ax => hF ⟨ak, fun j cs ae e => ax ⟨j, cs, ae, e⟩⟩)
  ·exact .inl ak
 refine ⟨A, aY, de, bZ.hot fun b h => bZ.up b (ha bZ.below.size h), fun k cs af ar => ?_, ⟨bZ.below.os.trans ab.os, bZ.below.tape.trans ab.tape, bZ.below.output.trans ab.output, ha ab.size bZ.below.size, fun b ar => ?_⟩, H3 az fun g q => ?_, fun g q => ⟨(aq g q).1, fun k cs af he => ?_⟩, h1, Kg ng bZ⟩
 ·rcases wX k cs af with h | ⟨j, au, ae, e⟩
  ·have := a8.lt _ ar; have := ab.size; omega
  ·rw [← e] at ar; exact cp j au ae ar
 ·exact (bZ.below.block b ⟨pW (a8.lt b ar) ab.size, fun k cs af e => cp k cs af (by rw [e]; exact ar)⟩).trans (ab.block b ar)
 ·exact bZ.below.block g ⟨(az.lt g q).2, (aq g q).2⟩
 ·rcases wX k cs af with h | ⟨j, au, ae, e⟩
  ·have := (az.lt g q).2; omega
  ·exact (aq g q).2 j au ae (e.trans he)
theorem qK (h : ff P c (fun x s' => Q x t s') s) : nK P e sz c Q t s := by
 intro ok a8 bp a w up ⟨A, ad, de, aw, cp, ab, az, aq, h1, ng⟩;refine nI (h ok (lq a8 s ad w) A ad a w aw) ?_;rintro x a' w' ⟨s', aY, cS, bZ, al⟩;exact ⟨t, s', cS, lf.next de cp ab az aq h1 ng bZ, al⟩
theorem tF (h : nK P e sz x (CD (fun t s => nK P e sz y Q t s) Q) t s) : nK P e sz (.seq x y) Q t s := by
 intro ok a8 bp a w up cj;refine Jc (nI (h ok a8 bp a w up cj) ?_);rintro x a' w' ⟨fW, s', cS, ih, al⟩;cases x <;> first | exact al cS a8 bp a' w' up ih | exact ⟨fW, s', cS, ih, al⟩
theorem G9 {id : Nat} (h : nK P e sz x (Gi id Q) t s) : nK P e sz (.block id x) Q t s := by
 intro ok a8 bp a w up cj;refine I8 (nI (h ok a8 bp a w up cj) ?_);rintro x a' w' ⟨fW, s', cS, ih, al⟩;cases x with
 | exit lx =>
  simp only [Exit.inBlock];simp only [Gi] at al;cases ab : Nat.beq lx id with
  | true => rw [ab] at al; rw [if_pos (hb ab)]; exact ⟨fW, s', cS, ih, al⟩
  | false =>
   rw [ab] at al;have : lx ≠ id := fun e => by subst e; rw [Nat.beq_refl] at ab; cases ab
   rw [if_neg this]; exact ⟨fW, s', cS, ih, al⟩
 | _ => exact ⟨fW, s', cS, ih, al⟩
theorem Y9 {c : Operand} {b : Bool} (aj : s.look c = some (bk b)) (h1 : b = true → nK P e sz x Q t s) (aD : b = false → nK P e sz y Q t s) : nK P e sz (.cond c x y) Q t s := by
 intro ok a8 bp a w up cj;obtain ⟨A, ad, de, aw, _⟩ := id cj;have hv : a.eval c = .bool b := (aw.look aj).1;refine I9 hv ?_;cases b with
 | true => exact h1 rfl ok a8 bp a w up cj
 | false => exact aD rfl ok a8 bp a w up cj
theorem Za (N : Nat) (I : Nat → mX → List (Nat × ah) → List (Nat × List AC) → Prop) (k : Nat) (aL : List (Nat × ah)) (bd : List (Nat × List AC)) (bj : I k t aL bd) (ax : N = s.n) (aB : lR s.tmps aL) (hm : lR s.mem bd) (c0 : okB aL bd = true)
  (round : ∀ k t aL bd, I k t aL bd → okB aL bd = true → nK P e sz x (CD (fun fW s' => ∃ k' lb k3, k' < k ∧ I k' fW lb k3 ∧ N = s'.n ∧ lR s'.tmps lb ∧ lR s'.mem k3 ∧ okB lb k3 = true) Q) t (qU N aL bd)) : nK P e sz (.loop x) Q t s := by
 intro ok a8 bp a w up cj;refine Ja (fun k a w => ∃ t aL bd, I k t aL bd ∧ okB aL bd = true ∧ lf a8 bp e sz t (qU N aL bd) a w) (n := k) ⟨t, aL, bd, bj, c0, cj.le (xp ax aB hm)⟩ ?_;rintro k a w ⟨t, aL, bd, bj, ok, cj⟩;refine nI (round k t aL bd bj ok (C6 ok) a8 bp a w up cj) ?_;rintro x a' w' ⟨fW, s', cS, ih, al⟩;cases x with
 | normal =>
  obtain ⟨k', lb, k3, h1, h2, an, aE, cY, fh⟩ := al;exact ⟨k', h1, fW, lb, k3, h2, fh, ih.le (xp an aE cY)⟩
 | _ => exact ⟨fW, s', cS, ih, al⟩
theorem UX {Q : Exit → aA → Prop} (e sz : Nat) (h : nK P e sz c (fun x t s' => ∃ d, s'.tmps d = some (aR t.v) ∧ Q x (s'.put (some d) (cy sz t.n (t.xs.map .c)))) ⟨.slice none 0 0, 0, []⟩ s) : ff P c Q s := by
 intro ok B A ad a w aw;have cj : lf B A e sz ⟨.slice none 0 0, 0, []⟩ s a w := ⟨A, ad, fun _ h => h, aw.hot fun b h => aw.up b (ha aw.below.size h), fun k cs af => (aw.dn k cs af).choose_spec.choose_spec.2.2, aw.below, World.ownsRow_nil w B.W.heap.size e sz, fun g aq => (by cases aq), fun u hu => (by cases hu), aw.jH⟩;refine nI (h ok B A a w aw.up cj) ?_;rintro x a' w' ⟨fW, s', cS, ⟨hQ, eG, W7, u2, YE, dA, Cy, y2, Yy, Xs⟩, d, hd, al⟩;refine ⟨_, eG, cS.put fun j ae => absurd ae (kI _ j), ?_, al⟩;have qC : Rel B A s' eG a' w' := u2.uM (fun b ab _ => ⟨W7 b ab, rfl⟩) (fun k cs af => ⟨rfl, YE k cs af⟩) dA aw.up Xs;refine qC.Iu hd fun v hI lZ => ?_;obtain ⟨rfl, B4⟩ := lZ;obtain ⟨ak, ax | ⟨g, cap, cur, iC, nh, qF, ep, iA, dT, lY⟩⟩ := Cy
 ·obtain ⟨aF, aM⟩ := ax;rw [aF];exact ⟨⟨none, 0, by rw [aM], by omega, by simpa using ak, fun h => absurd h (by omega)⟩, fun b ⟨c', a', q, ax, ab⟩ => by cases q⟩
 ·have kk : ∀ (j : Nat) u, fW.xs[j]? = some u → w'.cell? ((⟨g, 0, none⟩ : Addr).add j) = some u := World.ownsRow.cells ⟨ak, .inr ⟨g, cap, cur, iC, nh, qF, ep, iA, dT, lY⟩⟩ (by rw [iC]; rfl);have pH := (y2 g (by rw [iC]; rfl)).2;rw [iC];refine ⟨⟨some ⟨g, 0, none⟩, cap, rfl, ep, by simpa using ak, fun ax => ⟨⟨g, 0, none⟩, fW.xs, rfl, (jv.1 qF).1, ⟨by simp, fun i y v ai hv => ?_⟩, kk, fun y ai => ?_⟩⟩, ?_⟩
  ·rw [eg, hv] at ai;cases ai;exact ⟨rfl, Yy v (c7 hv)⟩
  ·obtain ⟨v, _, rfl⟩ := iv.1 ai;rfl
  ·rintro b ⟨c', a', q, ax, ar⟩;cases q;rcases ar with rfl | ⟨j, y, v, ai, hv, fZ⟩
   ·exact ⟨aw.up _ nh, pH⟩
   ·rw [eg] at ai;cases nX : fW.xs[j]? with
    | none => rw [nX] at ai; cases ai
    | some u => rw [nX] at ai; cases ai; cases fZ
theorem IA (w : World) (base : Nat) (t ty e : TypeId) (i : TypeInfo) (z : Value) (size bytes : Nat) (aB : P.underlying t = some (.slice e)) (hi : P.info? e = some i) (aP : i.zero = some z)
  (gW : i.size = size) (kg : i.bytes = bytes) (nv : z.cells.size = size) (bI : 0 < size)
  (v : Value) (n : Nat) (xs : List Value) (cp : w.ownsRow base e size v n xs)
  (a : Addr) (m c : Nat) (news : List Value) (ak : news.length = m * size) (kj : ∀ j u, news[j]? = some u → w.cell? (a.add j) = some u) (h1 : ∀ u ∈ news, u.oneCell' = true)
  (F1 : n + m ≤ maxLen) (Gl : (n + m) * bytes ≤ 140737488355328) (lq : base ≤ w.heap.size) (hm : 0 < m) :
  ∃ v' w', (Builtin.append_ #[t, t] ty #[v, .slice (some a) m c]).run P w = .ok v' w' ∧ w'.ownsRow base e size v' (n + m) (xs ++ news) ∧ w.grownBy w' v.ownBlock ∧ (∀ g, v'.ownBlock = some g → v.ownBlock = some g ∨ w.heap.size ≤ g) ∧ v'.oneCell' = true := by
 obtain ⟨v', w', ap, h2, an, aE⟩ := run_append_own (P := P) w base t ty e i z size bytes aB hi aP gW kg nv bI v n xs cp a m c news ak kj h1 F1 Gl lq;refine ⟨v', w', ap, h2, an, ?_, ?_⟩
 ·have aiy : n + m ≤ 9223372036854775807 := by simp only [maxLen] at F1; omega
  rcases cp.2 with ⟨rfl, rfl⟩ | ⟨g, cap, cur, rfl, nh, aq, ep, iA, dT, lY⟩
  ·have aa : xs = [] := kt (by simpa using cp.1);subst aa;have := run_append_nil (P := P) w t ty e i z aB hi aP a m c news (by rw [gW]; exact ak) kj hm (by omega) (by rw [kg]; simp only [jd] at Gl; omega);rw [this] at ap;cases ap;intro g aq;simp [Value.ownBlock] at aq;exact .inr (by omega)
  ·by_cases lW : n + m ≤ cap
   ·have w0 : n * i.size + news.length ≤ cur.size := by rw [gW, ak, dT, ← kq]; exact ju _ lW
    have := run_append_room (P := P) w t ty e i aB hi g n cap cur aq a m c news (by rw [gW]; exact ak) kj h1 lW w0;rw [this] at ap;cases ap;intro jk eo;exact .inl eo
   ·have holds : ∀ j u, xs[j]? = some u → w.cell? ((⟨g, 0, none⟩ : Addr).add j) = some u := cp.cells (g := g) rfl;have := run_append_grow (P := P) w t ty e i z aB hi aP ⟨g, 0, none⟩ n cap xs (by rw [gW]; exact cp.1) holds a m c news (by rw [gW]; exact ak) kj (by omega) (by omega) (growslice_fits (by omega) (by rw [kg]; exact Gl));rw [this] at ap;cases ap;intro jk eo;simp [Value.ownBlock] at eo;exact .inr (by omega)
 ·rcases h2.2 with ⟨rfl, _⟩ | ⟨g, cap, cur, rfl, _⟩ <;> rfl
theorem EZ {ro : Option Nat} {B : eH} {A : Nat → Prop} {ops : Array Oper} {K : aA → Prop} {Q : Exit → Act → World → Prop} {r : List Nat} (jO : ∀ s' aY a' w', s'.cE → Rel B A s' aY a' w' → K s' → wpOpsIn (lj ro) 0 P ops Q r a' w') : ∀ (l : List Oper) (k : Nat) (s : aA) (ad : Nat → Nat) (a : Act) (w : World), (∀ (j : Nat), j < l.length → l[j]? = ops[k + j]?) → s.cE → Rel B A s ad a w →
  bb P ops K l s → wpOpsIn (lj ro) 0 P ops Q ((List.range l.length).map (k + ·) ++ r) a w
 | [], _, _, _, _, _, _, ok, aw, h => jO _ _ _ _ ok aw h
 | o :: l, k, s, ad, a, w, ak, ok, aw, h => by
  have aD : ops[k]? = some o := by simpa using (ak 0 (by simp)).symm
  have e : (List.range (o :: l).length).map (k + ·) = k :: (List.range l.length).map (k + 1 + ·) := by
   rw [iI, List.range_succ_eq_map, j4, List.map_map];congr 1;apply nE;intro j _;simp [o5, o6 1 j]
  rw [e, List.cons_append, wpOpsIn_cons];refine E0 aD ok aw h fun s' aY a' w' cS bZ af => EZ jO l (k + 1) s' aY a' w' (fun j ae => by have := ak (j + 1) (by simp; omega); simpa [o5, o6 1 j] using this) cS bZ af
def vL (P : Program) (tt e sz bytes : Nat) : Bool := match P.underlying tt, P.info? e with
 | some (.slice bq), some i => match i.zero with
  | some z => Nat.beq bq e && Nat.beq i.size sz && Nat.beq i.bytes bytes && Nat.beq z.cells.size sz && Nat.blt 0 sz
  | none => false
 | _, _ => false
class kR (P : Program) (tt : TypeId) (e sz bytes : outParam Nat) : Prop where
 h : vL P tt e sz bytes = true
theorem p7 {tt e sz bytes : Nat} (h : vL P tt e sz bytes = true) : ∃ (i : TypeInfo) (z : Value), P.underlying tt = some (.slice e) ∧ P.info? e = some i ∧ i.zero = some z ∧ i.size = sz ∧ i.bytes = bytes ∧ z.cells.size = sz ∧ 0 < sz := by
 unfold vL at h
 split at h
 ·rename_i bq i hu hi
  split at h
  ·rename_i z aP;simp only [dc] at h;obtain ⟨⟨⟨⟨h1, h2⟩, an⟩, aE⟩, cY⟩ := h;rw [hb h1] at hu;exact ⟨i, z, hu, hi, aP, hb h2, hb an, hb aE, by simpa [Nat.blt_eq] using cY⟩
  ·cases h
 ·cases h
theorem lf.rE {a8 : eH} {bp : Nat → Prop} {a : Act} {w : World} {tt ty bytes m d : Nat} {gP hD : Operand} {news : List Value} [R : kR P tt e sz bytes] (up : ∀ b, a8.W.heap.size ≤ b → bp b) (cj : lf a8 bp e sz t s a w) (hd : d < s.n) (CC : s.look gP = some (aR t.v)) (Hb : s.look hD = some (cy sz m (news.map .c))) (Cu : 0 < m ∨ 0 < t.n) (oH : ∀ u ∈ news, u.oneCell' = true) (GF : t.n + m ≤ maxLen) (Gk : (t.n + m) * bytes ≤ 140737488355328) :
  ∃ v' w2, (Builtin.append_ #[tt, tt] ty #[a.eval gP, a.eval hD]).run P w = .ok v' w2 ∧ v'.oneCell' = true ∧ lf a8 bp e sz ⟨v', t.n + m, t.xs ++ news⟩ (s.put (some d) (aR v')) (a.put (some d) v') w2 := by
 obtain ⟨i, z, aB, hi, aP, gW, kg, nv, bI⟩ := p7 R.h;obtain ⟨A, ad, de, aw, cp, ab, az, aq, h1, ng⟩ := cj;have hI : a.eval gP = t.v := (aw.look CC).1;have zr := (aw.look CC).2;obtain ⟨⟨rk, uT, ex, yV, jS, F2⟩, MC⟩ := aw.look Hb;rcases ue m with rfl | ve
 ·have ax : 0 < t.n := by rcases Cu with h | h; exact absurd h (Nat.lt_irrefl _); exact h
  have kj : news = [] := by
   have := jS;simp at this;exact this
  subst kj;refine ⟨t.v, w, ?_, zr, A, ad, de, aw.put (dst := some d) (fun d' e => by cases e; exact hd) ⟨rfl, zr⟩, cp, ab, by simpa using az, aq, by simpa using h1, ng⟩;rw [hI, ex];rcases az.2 with ⟨_, aD⟩ | ⟨g, cap, cur, hv, nh, pH, ep, iA, dT, lY⟩
  ·omega
  ·rw [hv];cases rk with
   | none => simp [Builtin.append_, run_underlying aB, sizeOf, typeInfo, hi, Builtin.lenOf, Builtin.firstCells, ep, storeCells]
   | some Bu => simp [Builtin.append_, run_underlying aB, sizeOf, typeInfo, hi, Builtin.lenOf, Builtin.firstCells, ep, storeCells, loadCells, loadCellsFrom]
 ·obtain ⟨Bu, vs, rfl, dT⟩ := F2 ve
  have cL : vs = news := by
   apply List.ext_getElem?;intro j;have mC := dT.k9.1;simp at mC;rcases hz j news.length with ae | ae
   ·have h2 := dT.k9.2 j (.c news[j]) (vs[j]'(by omega)) (by simp [ae]) (bN _);rw [bN (by omega : j < vs.length), bN ae, h2.1]
   ·rw [k7 ae, k7 (by omega)]
  subst cL;obtain ⟨v', w2, fS, pK, gi, kf, kk⟩ := IA (P := P) w a8.W.heap.size tt ty e i z sz bytes aB hi aP gW kg nv bI t.v t.n t.xs az Bu m uT vs (by simpa using jS) dT.at_ oH GF Gk ab.size ve;refine ⟨v', w2, by rw [hI, ex]; exact fS, kk, fun b => (A b ∧ b < w.heap.size) ∨ w2.heap.size ≤ b, ad, ?_, ?_, cp, ⟨gi.os.trans ab.os, gi.tape.trans ab.tape, gi.output.trans ab.output, ha ab.size gi.size, fun b ar => ?_⟩, pK, fun g eo => ⟨?_, fun k cs af => ?_⟩, ?_, ng⟩
  ·rintro b (h | h)
   ·exact de b h.1
   ·exact up b (by have := ab.size; have := gi.size; omega)
  ·have yL : Rel (lq a8 s ad w2) (fun b => (A b ∧ b < w.heap.size) ∨ w2.heap.size ≤ b) s ad a w2 :=
    aw.uM (fun b c4 e1 => ⟨.inl ⟨c4, e1⟩, gi.block b e1 fun e => (aq b e.symm).1 c4⟩) (fun k cs af => ⟨gi.block _ (aw.lt af) fun e => (aq _ e.symm).2 k cs af rfl, fun ar => ar.2 k cs af rfl⟩) (iN.refl _) (fun b h => .inr h) (u5 _ _ _)
   exact yL.put (dst := some d) (fun d' e => by cases e; exact hd) ⟨rfl, kk⟩
  ·refine (gi.block b (pW (a8.lt b ar) ab.size) fun e => ?_).trans (ab.block b ar);have := (az.lt b e.symm).1;have := a8.lt b ar;omega
  ·rintro (h | h)
   ·rcases kf g eo with q | q
    ·exact (aq g q).1 h.1
    ·omega
   ·have := (pK.lt g eo).2;omega
  ·rcases kf g eo with q | q
   ·exact (aq g q).2 k cs af
   ·have := aw.lt af;omega
  ·intro u hu;rcases kr.1 hu with q | q
   ·exact h1 u q
   ·exact oH u q
def BL : Nat → List Oper → Option (List Oper × List Oper)
 | 0, l => some ([], l)
 | k + 1, o :: l => match BL k l with
  | some (a, b) => some (o :: a, b)
  | none => none
 | _ + 1, [] => none
theorem Lh : ∀ (k : Nat) (l a b : List Oper), BL k l = some (a, b) → l = a ++ b
 | 0, l, a, b, h => by cases h; rfl
 | k + 1, [], a, b, h => by cases h
 | k + 1, o :: l, a, b, h => by
  simp only [BL] at h
  split at h
  ·rename_i a' bT aj;cases h;have := Lh k l _ _ aj;rw [this];rfl
  ·cases h
theorem Y8 {ae8 k : Nat} {l l1 l2 : List Oper} {d : Nat} {gP hD : Operand} {tt ty : Nat} {pos : String} {after : Array Edge} {bytes : Nat} [R : kR P tt e sz bytes]
  (hcut : BL k l = some (l1, ⟨some d, .call ⟨.builtin .append, #[gP, hD], #[tt, tt]⟩, ty, pos, after, none⟩ :: l2))
  (h : bb P l.toArray (fun s1 => d < s1.n ∧ s1.look gP = some (aR t.v) ∧ ∃ m news, s1.look hD = some (cy sz m (news.map .c)) ∧ (0 < m ∨ 0 < t.n) ∧ (∀ u ∈ news, u.oneCell' = true) ∧ t.n + m ≤ maxLen ∧ (t.n + m) * bytes ≤ 140737488355328 ∧
   ∀ v', v'.oneCell' = true → bb P l.toArray (fun s' => Q .normal ⟨v', t.n + m, t.xs ++ news⟩ s') l2 (s1.put (some d) (aR v'))) l1 s) : nK P e sz (.region ae8 l.toArray false) Q t s := by
 intro ok a8 bp a w up ⟨A, ad, de, aw, cp, ab, az, aq, h1, ng⟩;have ak := Lh _ _ _ _ hcut;refine Jb fun ro => ?_;have hlen : l.length = l1.length + (l2.length + 1) := by rw [ak]; simp
 have ap : List.range l.toArray.size = (List.range l1.length).map (0 + ·) ++ (l1.length :: (List.range l2.length).map (l1.length + 1 + ·)) := by
  rw [List.size_toArray, hlen, List.range_add];congr 1
  ·simp
  ·rw [List.range_succ_eq_map, j4, List.map_map];congr 1;apply nE;intro j _;simp [o5, o6 1 j]
 rw [ap];refine EZ ?_ l1 0 s ad a w (fun j ae => by rw [ak]; simp [gd ae]) ok aw h;rintro s1 eG a1 w1 acd u2 ⟨hd, CC, m, news, Hb, Cu, oH, GF, Gk, vk⟩;have Yu : l.toArray[l1.length]? = some ⟨some d, .call ⟨.builtin .append, #[gP, hD], #[tt, tt]⟩, ty, pos, after, none⟩ := by rw [ak]; simp
 rw [wpOpsIn_cons];unfold wpOpIn;rw [Yu];simp only [Region.wanted, if_true];refine Oper.Jf ?_ (fun c aj => by cases aj);obtain ⟨v', w2, fS, kk, Xd⟩ := lf.rE (P := P) (tt := tt) (bytes := bytes) (ty := ty) (d := d) up (lf.next de cp ab az aq h1 ng u2) hd CC Hb Cu oH GF Gk;refine Oper.um (v := v') (w' := w2) ?_ ?_
 ·simp only [execOp, resolve, invoke, builtin, Sem.run_bind, Sem.run_pure, Result.andThen_ok, List.map_toArray, j4, List.map_nil, fS]
 obtain ⟨nJ, vY, yL, qC, YF, dy, pK, y3, yK, Xt⟩ := Xd;have ace : (s1.put (some d) (aR v')).cE := acd.put fun j ae => absurd ae (iE _ j);have := EZ (ro := ro) (P := P) (ops := l.toArray) (r := []) (Q := fun x a' w' => ∃ fW s', s'.cE ∧ lf a8 bp e sz fW s' a' w' ∧ Q x fW s') (fun s' aY a' w' cS bZ af => ⟨⟨v', t.n + m, t.xs ++ news⟩, s', cS, lf.next (t := ⟨v', t.n + m, t.xs ++ news⟩) yL YF dy pK y3 yK Xt bZ, af⟩) l2 (l1.length + 1) _ vY _ w2 (fun j ae => by rw [ak]; simp [gz, o5, o6 1 j]) ace qC (vk v' kk);simpa using this
theorem oK {next : mX → aA → Prop} (h : next t s) : CD next Q .normal t s := h
theorem Nl {next : mX → aA → Prop} {i : Nat} (h : Q (.exit i) t s) : CD next Q (.exit i) t s := h
theorem Gj {i : Nat} (h : Q .normal t s) : Gi i Q .normal t s := h
end
end Go.Proofs.YtbcecodakfejaaaGreat
