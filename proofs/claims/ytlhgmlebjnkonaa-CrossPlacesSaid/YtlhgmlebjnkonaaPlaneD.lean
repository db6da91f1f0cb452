/-
  Rows of points: plane.Area, and the reference package's, by values. My own text.
-/
import Derived.Test.YtlhgmlebjnkonaaPlaneB
import Derived.Test.YtlhgmlebjnkonaaPlaneC
namespace Go.Proofs.Ytlhgmlebjnkonaa
open Go.RowKit
set_option linter.unusedVariables false
set_option linter.unusedSimpArgs false
/-- whole numbers of 64 bits go round. -/
def w64 (n : Int) : Int := (n + 9223372036854775808) % 18446744073709551616 - 9223372036854775808
theorem i64_w (n : Int) : IntKind.i64.wrap n = w64 n := by
  rw [IntKind.wrap_i64]
  unfold w64
  omega
theorem w64_add (a b : Int) : w64 (w64 a + b) = w64 (a + b) := by unfold w64; omega
theorem w64_zero : w64 0 = 0 := by decide
theorem w64_bd (a : Int) : -9223372036854775808 ≤ w64 a ∧ w64 a ≤ 9223372036854775807 := by unfold w64; omega
/-- the point at a place; the one behind it. -/
def ptA (l : List (Int × Int)) (i : Nat) : Int × Int := (l[i]?).getD (0, 0)
def nxA (l : List (Int × Int)) (i : Nat) : Int × Int := ptA l ((i + 1) % l.length)
def arS (l : List (Int × Int)) : Nat → Int
  | 0 => 0
  | i + 1 => arS l i + crV 0 0 (ptA l i).1 (ptA l i).2 (nxA l i).1 (nxA l i).2
def okL (l : List (Int × Int)) : Bool := l.all fun p => rB p.1 p.2
def areaL (l : List (Int × Int)) : Int := if l.length ≤ 2000 ∧ okL l = true then w64 (arS l l.length) else 0
theorem okL_not {l : List (Int × Int)} {i : Nat} {p : Int × Int} (h : l[i]? = some p) (hr : rB p.1 p.2 = false) : ¬ okL l = true := fun hk => by
  have := List.all_eq_true.1 hk p (List.mem_of_getElem? h)
  rw [hr] at this
  cases this
theorem okL_yes {l : List (Int × Int)} (h : ∀ (i : Nat) (p : Int × Int), l[i]? = some p → rB p.1 p.2 = true) : okL l = true := List.all_eq_true.2 fun p hp => by
  obtain ⟨i, hi⟩ := List.getElem?_of_mem hp
  exact h i p hi
theorem ptA_of {l : List (Int × Int)} {i : Nat} {p : Int × Int} (h : l[i]? = some p) : ptA l i = p := by unfold ptA; rw [h]; rfl
/-- what holds ahead of each round of Area's loop. -/
def ArI (l : List (Int × Int)) (k : Nat) (ts : List (Nat × AV)) (ms : List (Nat × List AC)) : Prop :=
  ∃ (i : Nat) (a j : Int), i ≤ l.length ∧ k = l.length - i ∧ (∀ m p, m < i → l[m]? = some p → rB p.1 p.2 = true) ∧ a = w64 (arS l i) ∧ j = i ∧ ms = [] ∧ ts = [(0, vPs l), (3, vI a), (9, vI l.length), (10, vI j)]
end Go.Proofs.Ytlhgmlebjnkonaa
