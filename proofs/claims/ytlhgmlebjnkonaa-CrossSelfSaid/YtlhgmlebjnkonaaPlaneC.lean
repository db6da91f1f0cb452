/-
  Rows of points: plane.Equal, by values. My own text.
-/
import Derived.Test.YtlhgmlebjnkonaaAbsP
namespace Go.Proofs.Ytlhgmlebjnkonaa
open Go.RowKit
set_option linter.unusedVariables false
set_option linter.unusedSimpArgs false
/-- the cells of a row of points. -/
def ptsC : List (Int × Int) → List AC
  | [] => []
  | p :: l => .c (.int .i64 p.1) :: .c (.int .i64 p.2) :: ptsC l
abbrev vPs (l : List (Int × Int)) : AV := vS 2 l.length (ptsC l)
theorem ptsC_at : ∀ (l : List (Int × Int)) (i : Nat) (p : Int × Int), l[i]? = some p → ((ptsC l).drop (i * 2)).take 2 = [.c (.int .i64 p.1), .c (.int .i64 p.2)]
  | [], i, p, h => by simp at h
  | q :: l, 0, p, h => by simp at h; subst h; rfl
  | q :: l, i + 1, p, h => by
    rw [show (i + 1) * 2 = i * 2 + 1 + 1 by omega]
    simp only [ptsC, List.drop_succ_cons]
    exact ptsC_at l i p (by simpa using h)
theorem ptsC_int {l : List (Int × Int)} {j : Int} {i : Nat} {p : Int × Int} (hj : j = i) (h : l[i]? = some p) : ((ptsC l).drop (j.toNat * 2)).take 2 = [.c (.int .i64 p.1), .c (.int .i64 p.2)] := by
  subst hj
  exact ptsC_at l i p h
theorem pt_ex {l : List (Int × Int)} {i : Nat} (h : i < l.length) : ∃ x y, l[i]? = some (x, y) := ⟨_, _, List.getElem?_eq_getElem h⟩
theorem ptsC_xy {l : List (Int × Int)} {j : Int} {i : Nat} {x y : Int} (hj : j = i) (h : l[i]? = some (x, y)) : ((ptsC l).drop (j.toNat * 2)).take 2 = [.c (.int .i64 x), .c (.int .i64 y)] := ptsC_int hj h
/-- what holds ahead of each round of Equal's loop. -/
def EqI (l m : List (Int × Int)) (k : Nat) (ts : List (Nat × AV)) (ms : List (Nat × List AC)) : Prop :=
  ∃ i : Nat, i ≤ l.length ∧ k = l.length - i ∧ (∀ j, j < i → l[j]? = m[j]?) ∧ ms = [] ∧ ts = [(0, vPs l), (1, vPs m), (12, vI l.length), (13, vI i)]
end Go.Proofs.Ytlhgmlebjnkonaa
