/-
  The statements of layer 3: alive. My own text.
-/
import Derived.Test.YtfcehanpmbeegaaAbsQ
namespace Go.Proofs.Ytfcehanpmbeegaa
open Go.RowKit
set_option linter.unusedVariables false
set_option linter.unusedSimpArgs false
end Go.Proofs.Ytfcehanpmbeegaa
