/-
  The cells of a row of points that grows. My own text.
-/
import Derived.Test.YtlhgmlebjnkonaaPlaneC
import Derived.Test.YtlhgmlebjnkonaaAbsH
import Derived.Test.YtlhgmlebjnkonaaAbsI
namespace Go.Proofs.Ytlhgmlebjnkonaa
open Go.RowKit
set_option linter.unusedVariables false
set_option linter.unusedSimpArgs false
instance : RowTy Try.prog 47 23 2 16 := ⟨by kernel_rfl⟩
/-- the cells of a row of points. -/
def ptsV : List (Int × Int) → List Value
  | [] => []
  | p :: l => .int .i64 p.1 :: .int .i64 p.2 :: ptsV l
theorem ptsV_c : ∀ l, (ptsV l).map .c = ptsC l
  | [] => rfl
  | p :: l => by simp [ptsV, ptsC, ptsV_c l]
theorem ptsV_app : ∀ l m, ptsV (l ++ m) = ptsV l ++ ptsV m
  | [], m => rfl
  | p :: l, m => by simp [ptsV, ptsV_app l m]
theorem ptsV_one : ∀ (l : List (Int × Int)), ∀ u ∈ ptsV l, u.oneCell' = true
  | [], u, h => by cases h
  | p :: l, u, h => by
    simp only [ptsV, List.mem_cons] at h
    rcases h with rfl | rfl | h
    · rfl
    · rfl
    · exact ptsV_one l u h
theorem ptsV_drop : ∀ (l : List (Int × Int)) (k : Nat), (ptsC l).drop (k * 2) = (ptsV (l.drop k)).map .c
  | l, 0 => by simp [ptsV_c]
  | [], k + 1 => by simp [ptsC, ptsV]
  | p :: l, k + 1 => by
    rw [show (k + 1) * 2 = k * 2 + 1 + 1 by omega]
    simp only [ptsC, List.drop_succ_cons]
    exact ptsV_drop l k
theorem ptsV_take : ∀ (l : List (Int × Int)) (k : Nat), (ptsC l).take (k * 2) = (ptsV (l.take k)).map .c
  | l, 0 => by simp [ptsV]
  | [], k + 1 => by simp [ptsC, ptsV]
  | p :: l, k + 1 => by
    rw [show (k + 1) * 2 = k * 2 + 1 + 1 by omega]
    simp only [ptsC, List.take_succ_cons, ptsV, List.map_cons]
    rw [ptsV_take l k]
end Go.Proofs.Ytlhgmlebjnkonaa
