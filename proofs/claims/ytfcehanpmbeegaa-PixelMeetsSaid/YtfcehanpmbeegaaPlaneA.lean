/-
  Package plane, and the reference package of layer 4, by values. My own text.
-/
import Derived.Test.YtfcehanpmbeegaaAbsP
namespace Go.Proofs.Ytfcehanpmbeegaa
open Go.RowKit
set_option linter.unusedVariables false
set_option linter.unusedSimpArgs false
/-- is a number not too far? -/
def fB (n : Int) : Bool := decide (-536870912 ≤ n) && decide (n ≤ 536870912)
theorem fB_iff {n : Int} : fB n = true ↔ -536870912 ≤ n ∧ n ≤ 536870912 := by unfold fB; rw [Bool.and_eq_true, decide_eq_true_eq, decide_eq_true_eq]
def rB (x y : Int) : Bool := fB x && fB y
theorem rB_iff {x y : Int} : rB x y = true ↔ (-536870912 ≤ x ∧ x ≤ 536870912) ∧ -536870912 ≤ y ∧ y ≤ 536870912 := by unfold rB; rw [Bool.and_eq_true, fB_iff, fB_iff]
/-- the product of three points. -/
def cr (o1 o2 a1 a2 b1 b2 : Int) : Int := (a1 - o1) * (b2 - o2) - (a2 - o2) * (b1 - o1)
theorem mul_bd {x y A B : Int} (h1 : -A ≤ x) (h2 : x ≤ A) (h3 : -B ≤ y) (h4 : y ≤ B) : -(A * B) ≤ x * y ∧ x * y ≤ A * B := by
  have hx : x.natAbs ≤ A.natAbs := by omega
  have hy : y.natAbs ≤ B.natAbs := by omega
  have h := Nat.mul_le_mul hx hy
  rw [← Int.natAbs_mul, ← Int.natAbs_mul] at h
  have hA : 0 ≤ A * B := Int.mul_nonneg (by omega) (by omega)
  omega
theorem mul60 {x y : Int} (h1 : -1073741824 ≤ x) (h2 : x ≤ 1073741824) (h3 : -1073741824 ≤ y) (h4 : y ≤ 1073741824) : -1152921504606846976 ≤ x * y ∧ x * y ≤ 1152921504606846976 := by
  have := mul_bd h1 h2 h3 h4
  omega
/-- the product, or 0, if a point is not right. -/
def crV (o1 o2 a1 a2 b1 b2 : Int) : Int := if (rB o1 o2 && rB a1 a2 && rB b1 b2) = true then cr o1 o2 a1 a2 b1 b2 else 0
theorem crV_bd (o1 o2 a1 a2 b1 b2 : Int) : -2305843009213693952 ≤ crV o1 o2 a1 a2 b1 b2 ∧ crV o1 o2 a1 a2 b1 b2 ≤ 2305843009213693952 := by
  unfold crV
  split
  · rename_i h
    simp only [Bool.and_eq_true, rB_iff] at h
    have m1 := mul60 (x := a1 - o1) (y := b2 - o2) (by omega) (by omega) (by omega) (by omega)
    have m2 := mul60 (x := a2 - o2) (y := b1 - o1) (by omega) (by omega) (by omega) (by omega)
    unfold cr
    omega
  · omega
/-- the sign of a number. -/
def sgn4 (n : Int) : Int := if n < 0 then -1 else if 0 < n then 1 else 0
/-! boxes -/
abbrev imin (a b : Int) : Int := if b < a then b else a
abbrev imax (a b : Int) : Int := if b > a then b else a
def hB (l1 l2 h1 h2 p1 p2 : Int) : Bool := decide (l1 ≤ p1) && decide (p1 ≤ h1) && decide (l2 ≤ p2) && decide (p2 ≤ h2)
theorem hB_iff {l1 l2 h1 h2 p1 p2 : Int} : hB l1 l2 h1 h2 p1 p2 = true ↔ l1 ≤ p1 ∧ p1 ≤ h1 ∧ l2 ≤ p2 ∧ p2 ≤ h2 := by unfold hB; simp only [Bool.and_eq_true, decide_eq_true_eq, and_assoc]
/-- is p on the segment from a to b? -/
def onB (p1 p2 a1 a2 b1 b2 : Int) : Bool := rB p1 p2 && rB a1 a2 && rB b1 b2 && hB (imin a1 b1) (imin a2 b2) (imax a1 b1) (imax a2 b2) p1 p2 && decide (cr a1 a2 b1 b2 p1 p2 = 0)
theorem sgn4_zero {n : Int} : sgn4 n = 0 ↔ n = 0 := by unfold sgn4; repeat' split <;> omega
end Go.Proofs.Ytfcehanpmbeegaa
