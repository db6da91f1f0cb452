/-
  Rows put in order by whatever function tells what comes ahead: by halves, put together. My own text.
-/
import Derived.Test.YtcplkjnmfdinaaaOrdM
namespace Go.Proofs.Ytcplkjnmfdinaaa
set_option linter.unusedVariables false
/-- two rows, put together: the second's thing comes first just if it comes ahead of the first's. -/
def mrgL (lt : Int × Int → Int × Int → Bool) : List (Int × Int) → List (Int × Int) → List (Int × Int)
  | [], b => b
  | x :: a, [] => x :: a
  | x :: a, y :: b => if lt y x then y :: mrgL lt (x :: a) b else x :: mrgL lt a (y :: b)
termination_by a b => a.length + b.length
theorem mrgL_nil (lt : Int × Int → Int × Int → Bool) (a : List (Int × Int)) : mrgL lt a [] = a := by cases a <;> simp [mrgL]
theorem mrgL_nil' (lt : Int × Int → Int × Int → Bool) (a : List (Int × Int)) : mrgL lt [] a = a := by simp [mrgL]
theorem mrgL_len (lt : Int × Int → Int × Int → Bool) : ∀ a b, (mrgL lt a b).length = a.length + b.length := by
  intro a b
  induction a, b using mrgL.induct lt with
  | case1 b => simp [mrgL]
  | case2 x a => simp [mrgL]
  | case3 x a y b h ih => rw [mrgL, if_pos h, List.length_cons, ih]; simp; omega
  | case4 x a y b h ih => rw [mrgL, if_neg h, List.length_cons, ih]; simp; omega
/-- a row, put in order by halves. -/
def srtL (lt : Int × Int → Int × Int → Bool) (l : List (Int × Int)) : List (Int × Int) :=
  if h : l.length < 2 then l else mrgL lt (srtL lt (l.take (l.length / 2))) (srtL lt (l.drop (l.length / 2)))
termination_by l.length
decreasing_by all_goals (simp; omega)
theorem srtL_len (lt : Int × Int → Int × Int → Bool) : ∀ (N : Nat) (l : List (Int × Int)), l.length ≤ N → (srtL lt l).length = l.length
  | 0, l, h => by rw [srtL, dif_pos (by omega)]
  | N + 1, l, h => by
    rw [srtL]
    split
    · rfl
    · rw [mrgL_len, srtL_len lt N _ (by simp; omega), srtL_len lt N _ (by simp; omega)]
      simp; omega
/-- does none of the first k come behind the one behind it? -/
def adjL (lt : Int × Int → Int × Int → Bool) (l : List (Int × Int)) (k : Nat) : Bool := (List.range k).all fun i => !lt (l.getD (i + 1) (0, 0)) (l.getD i (0, 0))
theorem adjL_succ (lt : Int × Int → Int × Int → Bool) (l : List (Int × Int)) (k : Nat) : adjL lt l (k + 1) = (adjL lt l k && !lt (l.getD (k + 1) (0, 0)) (l.getD k (0, 0))) := by
  unfold adjL
  rw [List.range_succ, List.all_append]
  simp
theorem adjL_false {lt : Int × Int → Int × Int → Bool} {l : List (Int × Int)} {i k : Nat} (hi : i < k) (h : lt (l.getD (i + 1) (0, 0)) (l.getD i (0, 0)) = true) : adjL lt l k = false := by
  unfold adjL
  rw [List.all_eq_false]
  exact ⟨i, by simpa using hi, by rw [h]; decide⟩
/-- by the first numbers. -/
abbrev ltK : Int × Int → Int × Int → Bool := fun x y => decide (x.1 < y.1)
theorem mrgL_key : ∀ a b, mrgL ltK a b = mrg a b := by
  intro a b
  induction a, b using mrgL.induct ltK with
  | case1 b => simp [mrgL, mrg]
  | case2 x a => simp [mrgL, mrg]
  | case3 x a y b h ih => rw [mrgL, if_pos h, mrg, if_pos (by simpa using h), ih]
  | case4 x a y b h ih => rw [mrgL, if_neg h, mrg, if_neg (by simpa using h), ih]
theorem IsSort.glue {a b x y s : List (Int × Int)} (ha : IsSort a x) (hb : IsSort b y) (h : IsSort (x ++ y) s) : IsSort (a ++ b) s :=
  ⟨h.1, fun c => by rw [h.2, List.filter_append, List.filter_append, ha.2, hb.2]⟩
theorem srtL_key : ∀ (N : Nat) (l : List (Int × Int)), l.length ≤ N → IsSort l (srtL ltK l)
  | N, l, h => by
    by_cases q : l.length < 2
    · have e : srtL ltK l = l := by rw [srtL, dif_pos q]
      rw [e]
      refine .refl ?_
      match l, q with
      | [], _ => exact .nil
      | [x], _ => simp
      | x :: y :: l, q => exact absurd q (by simp)
    · match N with
      | 0 => omega
      | N + 1 =>
        have e : srtL ltK l = mrg (srtL ltK (l.take (l.length / 2))) (srtL ltK (l.drop (l.length / 2))) := by rw [srtL, dif_neg q, mrgL_key]
        have h1 := srtL_key N (l.take (l.length / 2)) (by simp; omega)
        have h2 := srtL_key N (l.drop (l.length / 2)) (by simp; omega)
        have h3 := h1.glue h2 (mrg_sort _ _ h1.1 h2.1)
        rw [List.take_append_drop] at h3
        rw [e]
        exact h3
end Go.Proofs.Ytcplkjnmfdinaaa
