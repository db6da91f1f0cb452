/-
  cobweblaw01.WideBack returns true, for every two Ints. My own text.
-/
import Derived.Test.YtljkapolljgbiaaDoorAlive
namespace Go.Proofs.YtljkapolljgbiaaDoor
open Go.RowKit Go.Lib
set_option linter.unusedVariables false

theorem back_sub {n m : Int} (h : fits n = true) : fits (n + m - m) = true := by rw [Int.add_sub_cancel]; exact h
theorem back_neg {n : Int} (h : fits n = true) : fits (- -n) = true := by rw [Int.neg_neg]; exact h
end Go.Proofs.YtljkapolljgbiaaDoor
