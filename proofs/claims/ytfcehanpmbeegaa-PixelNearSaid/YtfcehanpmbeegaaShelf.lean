/-
  The library's contracts that are used here, at this translation's own numbers; laid by the library's tool, its remarks struck.
-/
import Derived.Shelf.Lay
import Derived.Shelf.LaySoft

import Derived.Test.YtfcehanpmbeegaaProg
namespace Go.Proofs
open Go.Shelf
shelf_tried
end Go.Proofs
