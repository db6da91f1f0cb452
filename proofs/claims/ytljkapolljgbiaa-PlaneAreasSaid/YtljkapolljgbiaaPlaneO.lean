/-
  What rows of points go around: the other way round; begun elsewhere. My own text.
-/
import Derived.Test.YtljkapolljgbiaaPlaneD
import Derived.Test.YtljkapolljgbiaaPlaneF
namespace Go.Proofs.Ytljkapolljgbiaa
open Go.RowKit
set_option linter.unusedVariables false
set_option linter.unusedSimpArgs false
/-- two points' product, from (0, 0). -/
def cz (p q : Int × Int) : Int := crV 0 0 p.1 p.2 q.1 q.2
theorem cz_swap (p q : Int × Int) : cz q p = -cz p q := by unfold cz; exact crV_swap2 ..
/-- along a path. -/
def paS : List (Int × Int) → Int
  | [] => 0
  | [_] => 0
  | p :: q :: l => cz p q + paS (q :: l)
theorem paS_snoc : ∀ (l : List (Int × Int)) (p q : Int × Int), paS (l ++ [p, q]) = paS (l ++ [p]) + cz p q
  | [], p, q => by simp [paS]
  | [x], p, q => by simp [paS]
  | x :: y :: l, p, q => by
    have := paS_snoc (y :: l) p q
    simp only [List.cons_append, paS] at this ⊢
    omega
theorem paS_rev : ∀ (l : List (Int × Int)), paS l.reverse = -paS l
  | [] => rfl
  | [_] => rfl
  | p :: q :: l => by
    have ih := paS_rev (q :: l)
    have e : (p :: q :: l).reverse = l.reverse ++ [q, p] := by simp
    have e2 : (q :: l).reverse = l.reverse ++ [q] := by simp
    rw [e, paS_snoc, ← e2, ih, cz_swap p q]
    simp only [paS]
    omega
/-- around. -/
def cyS : List (Int × Int) → Int
  | [] => 0
  | p :: m => paS (p :: m ++ [p])
theorem cyS_rot (x : Int × Int) : ∀ m : List (Int × Int), cyS (m ++ [x]) = cyS (x :: m)
  | [] => rfl
  | y :: m => by
    have e : y :: (m ++ [x]) ++ [y] = (y :: m) ++ [x, y] := by simp
    show paS (y :: (m ++ [x]) ++ [y]) = paS (x :: (y :: m) ++ [x])
    rw [e, paS_snoc]
    simp only [List.cons_append, paS]
    omega
theorem cyS_rev : ∀ l : List (Int × Int), cyS l.reverse = -cyS l
  | [] => rfl
  | x :: m => by
    rw [List.reverse_cons, cyS_rot]
    show paS (x :: m.reverse ++ [x]) = -paS (x :: m ++ [x])
    rw [← paS_rev]
    simp
theorem cyS_turn (l : List (Int × Int)) : ∀ k, k ≤ l.length → cyS (l.drop k ++ l.take k) = cyS l
  | 0, _ => by simp
  | k + 1, hk => by
    rw [← cyS_turn l k (by omega), List.drop_eq_getElem_cons (show k < l.length by omega), List.take_succ_eq_append_getElem (show k < l.length by omega), ← List.append_assoc, cyS_rot]
    rfl
theorem arS_take (l : List (Int × Int)) : ∀ i, i + 1 ≤ l.length → arS l i = paS (l.take (i + 1))
  | 0, h => by
    cases l with
    | nil => cases h
    | cons x m => rfl
  | i + 1, h => by
    have ih := arS_take l i (by omega)
    have g0 := List.getElem?_eq_getElem (show i < l.length by omega)
    have g1 := List.getElem?_eq_getElem (show i + 1 < l.length by omega)
    simp only [arS, nxA]
    rw [Nat.mod_eq_of_lt (show i + 1 < l.length by omega), ptA_of g0, ptA_of g1, ih]
    have e1 : l.take (i + 1) = l.take i ++ [l[i]] := List.take_succ_eq_append_getElem (by omega)
    have e2 : l.take (i + 1 + 1) = l.take i ++ [l[i], l[i + 1]] := by rw [List.take_succ_eq_append_getElem (show i + 1 < l.length by omega), e1, List.append_assoc]; rfl
    rw [e2, paS_snoc, ← e1]
    rfl
theorem arS_cy : ∀ l : List (Int × Int), arS l l.length = cyS l
  | [] => rfl
  | x :: m => by
    have hl : (x :: m).length = m.length + 1 := rfl
    rw [hl]
    simp only [arS, nxA]
    rw [hl, Nat.mod_self, arS_take (x :: m) m.length (by simp)]
    have g := List.getElem?_eq_getElem (show m.length < (x :: m).length by simp)
    rw [ptA_of g, show ptA (x :: m) 0 = x from rfl]
    have e0 : (x :: m).take (m.length + 1) = x :: m := by simp
    have e1 : (x :: m).take (m.length + 1) = (x :: m).take m.length ++ [(x :: m)[m.length]] := List.take_succ_eq_append_getElem (by simp)
    show paS ((x :: m).take (m.length + 1)) + cz (x :: m)[m.length] x = paS (x :: m ++ [x])
    have e2 : x :: m ++ [x] = (x :: m).take m.length ++ [(x :: m)[m.length], x] := by
      rw [show x :: m ++ [x] = (x :: m).take (m.length + 1) ++ [x] by rw [e0], e1, List.append_assoc]; rfl
    rw [e2, paS_snoc, ← e1]
theorem w64_neg (a : Int) : w64 (-w64 a) = w64 (-a) := by unfold w64; omega
theorem area_rev (l : List (Int × Int)) : areaL l.reverse = w64 (-areaL l) := by
  unfold areaL
  have e : okL l.reverse = okL l := by unfold okL; rw [List.all_reverse]
  rw [List.length_reverse, e]
  split
  · have e3 : arS l.reverse l.length = arS l.reverse l.reverse.length := by rw [List.length_reverse]
    rw [e3, arS_cy, cyS_rev, arS_cy, w64_neg]
  · decide
theorem area_turn (l : List (Int × Int)) {k : Nat} (hk : k ≤ l.length) : areaL (l.drop k ++ l.take k) = areaL l := by
  unfold areaL
  have e : okL (l.drop k ++ l.take k) = okL l := by
    unfold okL
    rw [List.all_append, Bool.and_comm, ← List.all_append, List.take_append_drop]
  have e2 : (l.drop k ++ l.take k).length = l.length := by simp; omega
  rw [e, arS_cy, cyS_turn l k hk, e2, ← arS_cy l]
end Go.Proofs.Ytljkapolljgbiaa
