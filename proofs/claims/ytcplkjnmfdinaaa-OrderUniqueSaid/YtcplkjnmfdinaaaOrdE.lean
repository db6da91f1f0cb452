/-
  The five statements of order that stand on order alone, as rows want them. My own text.
-/
import Derived.Test.YtcplkjnmfdinaaaOrdJ
import Derived.Test.YtcplkjnmfdinaaaOrdX
namespace Go.Proofs.Ytcplkjnmfdinaaa
open Go.RowKit
set_option linter.unusedVariables false
theorem sorts_walk (l : List (Int × Int)) (_ : (l.length : Int) ≤ 9223372036854775807) : PCall Try.prog 3 [vIt l] (vB true) := law_Sorts p_alive7 k_Sort k_Is
theorem merges_walk (a b : List (Int × Int)) (_ : (a.length : Int) ≤ 9223372036854775807) (_ : (b.length : Int) ≤ 9223372036854775807) : PCall Try.prog 4 [vIt a, vIt b] (vB true) :=
  law_Merges p_alive7 fun a b ha hb h1 h2 => k_Merge a b (by omega) (by omega) h1 h2
theorem unique_walk (l : List Int) (_ : (l.length : Int) ≤ 9223372036854775807) : PCall Try.prog 5 [vIn l] (vB true) := law_Unique p_alive7 k_Uniq
theorem again_walk (l : List (Int × Int)) (k n : Int) (_ : (l.length : Int) ≤ 9223372036854775807) (_ : -9223372036854775808 ≤ k ∧ k ≤ 9223372036854775807) (_ : -9223372036854775808 ≤ n ∧ n ≤ 9223372036854775807) : PCall Try.prog 8 [vIt l, vP k n] (vB true) :=
  law_Again p_alive7 k_Sort k_Is k_Merge
theorem along_walk (a1 a2 b1 b2 x1 y1 x2 y2 : Int) (_ : -9223372036854775808 ≤ a1 ∧ a1 ≤ 9223372036854775807) (_ : -9223372036854775808 ≤ a2 ∧ a2 ≤ 9223372036854775807) (_ : -9223372036854775808 ≤ b1 ∧ b1 ≤ 9223372036854775807) (_ : -9223372036854775808 ≤ b2 ∧ b2 ≤ 9223372036854775807) (_ : -9223372036854775808 ≤ x1 ∧ x1 ≤ 9223372036854775807) (_ : -9223372036854775808 ≤ y1 ∧ y1 ≤ 9223372036854775807) (_ : -9223372036854775808 ≤ x2 ∧ x2 ≤ 9223372036854775807) (_ : -9223372036854775808 ≤ y2 ∧ y2 ≤ 9223372036854775807) :
    PCall Try.prog 6 [vP a1 a2, vP b1 b2, .w (.agg [.c (.int .i64 x1), .c (.int .i64 y1), .c (.int .i64 x2), .c (.int .i64 y2)])] (vB true) := law_Along p_alive7
end Go.Proofs.Ytcplkjnmfdinaaa
