/-
  No cell of these rows narrows 'for every input' (looked for: loops, veiled, ifaces, maps, wideKeys, modest, calm, conditions, laid).
  DERIVED. THE GIVEN ROWS OF THIS SEAT. 10 by the template 'for every input the law returns true; each argument reads behind the call as it read before'; 0 by the template 'total and deterministic' (their statements: YtinjgiigmlikpaaTotals.lean).
  GIVEN WITH THE SEED: the statements are not yours to turn. If you find one false, say at which input.
  Laid BY PROGRAM, IN A SANDBOX (cutbox-rows.mjs): the forced cells as the released guide's own fill.sh prints them over the translation 4ce3aaeb43109414… (all of the seat's roots in one cut). By AI agents, Wed Nov 11 2026. No macro, syntax, notation, axiom, sorry.
-/
import Derived.Test.YtinjgiigmlikpaaChecked
import GoSem.Claim
import GoSem.ClaimJoined
import GoSem.ClaimMapViews
import Derived.JoinedTies
import Derived.KernelRfl
namespace Go.Proofs.Ytinjgiigmlikpaa
/- THE CELL 'sum', in the pinned program and in every row, IS THE sha256 OF THE DUMP (.gsa) THAT YtinjgiigmlikpaaProg.lean LOADS. Nothing in Lean hashes anything: it is a label: what it is worth is what the hold of that sum in a sandbox is worth. -/
noncomputable def Try.pinned : Pinned := { name := "ytinjgiigmlikpaa", sum := "4ce3aaeb431094143bcbb05c116a8045b57775daca3bf8d83ff2f824cbc363f0", checked := Try.checked }
namespace Rows
def none {H : Type} : Left H := { results := [], args := [] }

/-- 'cobweblaw02.FracMakes': WHATEVER THE INPUT: true; the input reads as it did. -/
def fracMakesSpec : ChangeSpec := { name := "fracMakes", fn := fun _ => fun
  | [d1, d2, d3] => { results := [.lit (.bool true)], args := [d1, d2, d3] }
  | _ => none }
def fracMakesRow : OpenClaim := { program := "ytinjgiigmlikpaa", sum := "4ce3aaeb431094143bcbb05c116a8045b57775daca3bf8d83ff2f824cbc363f0", func := "cobweb/cobweblaw02.FracMakes", spec := "fracMakes", inPlace := ["math/bits.Sub64", "math/bits.Add64"], named := ["math/bits.divideError", "math/bits.overflowError"], apart := false }
def FracMakesSaid : Prop := fracMakesRow.holds Try.pinned (OpenSpec.ofChange fracMakesSpec)

/-- ITS FALSE NEIGHBOUR: 'it returns false'. Refute it at one input. -/
def fracMakesWrong : ChangeSpec := { name := "fracMakes", fn := fun _ => fun
  | [d1, d2, d3] => { results := [.lit (.bool false)], args := [d1, d2, d3] }
  | _ => none }
def FracMakesWrongFalsely : Prop := fracMakesRow.holds Try.pinned (OpenSpec.ofChange fracMakesWrong)

/-- 'cobweblaw02.FracSnaps': WHATEVER THE INPUT: true; the input reads as it did. -/
def fracSnapsSpec : ChangeSpec := { name := "fracSnaps", fn := fun _ => fun
  | [d1, d2] => { results := [.lit (.bool true)], args := [d1, d2] }
  | _ => none }
def fracSnapsRow : OpenClaim := { program := "ytinjgiigmlikpaa", sum := "4ce3aaeb431094143bcbb05c116a8045b57775daca3bf8d83ff2f824cbc363f0", func := "cobweb/cobweblaw02.FracSnaps", spec := "fracSnaps", inPlace := ["math/bits.Sub64", "math/bits.Add64"], named := ["math/bits.divideError", "math/bits.overflowError"], apart := false }
def FracSnapsSaid : Prop := fracSnapsRow.holds Try.pinned (OpenSpec.ofChange fracSnapsSpec)

/-- ITS FALSE NEIGHBOUR: 'it returns false'. Refute it at one input. -/
def fracSnapsWrong : ChangeSpec := { name := "fracSnaps", fn := fun _ => fun
  | [d1, d2] => { results := [.lit (.bool false)], args := [d1, d2] }
  | _ => none }
def FracSnapsWrongFalsely : Prop := fracSnapsRow.holds Try.pinned (OpenSpec.ofChange fracSnapsWrong)

/-- 'cobweblaw02.FracRises': WHATEVER THE INPUT: true; the input reads as it did. -/
def fracRisesSpec : ChangeSpec := { name := "fracRises", fn := fun _ => fun
  | [d1, d2, d3] => { results := [.lit (.bool true)], args := [d1, d2, d3] }
  | _ => none }
def fracRisesRow : OpenClaim := { program := "ytinjgiigmlikpaa", sum := "4ce3aaeb431094143bcbb05c116a8045b57775daca3bf8d83ff2f824cbc363f0", func := "cobweb/cobweblaw02.FracRises", spec := "fracRises", inPlace := ["math/bits.Sub64", "math/bits.Add64"], named := ["math/bits.divideError", "math/bits.overflowError"], apart := false }
def FracRisesSaid : Prop := fracRisesRow.holds Try.pinned (OpenSpec.ofChange fracRisesSpec)

/-- ITS FALSE NEIGHBOUR: 'it returns false'. Refute it at one input. -/
def fracRisesWrong : ChangeSpec := { name := "fracRises", fn := fun _ => fun
  | [d1, d2, d3] => { results := [.lit (.bool false)], args := [d1, d2, d3] }
  | _ => none }
def FracRisesWrongFalsely : Prop := fracRisesRow.holds Try.pinned (OpenSpec.ofChange fracRisesWrong)

/-- 'cobweblaw03.GridSnaps': WHATEVER THE INPUT: true; the input reads as it did. -/
def gridSnapsSpec : ChangeSpec := { name := "gridSnaps", fn := fun _ => fun
  | [d1, d2, d3] => { results := [.lit (.bool true)], args := [d1, d2, d3] }
  | _ => none }
def gridSnapsRow : OpenClaim := { program := "ytinjgiigmlikpaa", sum := "4ce3aaeb431094143bcbb05c116a8045b57775daca3bf8d83ff2f824cbc363f0", func := "cobweb/cobweblaw03.GridSnaps", spec := "gridSnaps", inPlace := ["math/bits.Sub64", "math/bits.Add64"], unfollowed := true, recurses := true, named := ["math/bits.divideError", "math/bits.overflowError"], apart := false }
def GridSnapsSaid : Prop := gridSnapsRow.holds Try.pinned (OpenSpec.ofChange gridSnapsSpec)

/-- ITS FALSE NEIGHBOUR: 'it returns false'. Refute it at one input. -/
def gridSnapsWrong : ChangeSpec := { name := "gridSnaps", fn := fun _ => fun
  | [d1, d2, d3] => { results := [.lit (.bool false)], args := [d1, d2, d3] }
  | _ => none }
def GridSnapsWrongFalsely : Prop := gridSnapsRow.holds Try.pinned (OpenSpec.ofChange gridSnapsWrong)

/-- 'cobweblaw03.GridAt': WHATEVER THE INPUT: true; the input reads as it did. -/
def gridAtSpec : ChangeSpec := { name := "gridAt", fn := fun _ => fun
  | [d1, d2, d3] => { results := [.lit (.bool true)], args := [d1, d2, d3] }
  | _ => none }
def gridAtRow : OpenClaim := { program := "ytinjgiigmlikpaa", sum := "4ce3aaeb431094143bcbb05c116a8045b57775daca3bf8d83ff2f824cbc363f0", func := "cobweb/cobweblaw03.GridAt", spec := "gridAt", inPlace := ["math/bits.Sub64", "math/bits.Add64"], unfollowed := true, recurses := true, named := ["math/bits.divideError", "math/bits.overflowError"], apart := false }
def GridAtSaid : Prop := gridAtRow.holds Try.pinned (OpenSpec.ofChange gridAtSpec)

/-- ITS FALSE NEIGHBOUR: 'it returns false'. Refute it at one input. -/
def gridAtWrong : ChangeSpec := { name := "gridAt", fn := fun _ => fun
  | [d1, d2, d3] => { results := [.lit (.bool false)], args := [d1, d2, d3] }
  | _ => none }
def GridAtWrongFalsely : Prop := gridAtRow.holds Try.pinned (OpenSpec.ofChange gridAtWrong)

/-- 'cobweblaw03.GridCenters': WHATEVER THE INPUT: true; the input reads as it did. -/
def gridCentersSpec : ChangeSpec := { name := "gridCenters", fn := fun _ => fun
  | [d1, d2, d3] => { results := [.lit (.bool true)], args := [d1, d2, d3] }
  | _ => none }
def gridCentersRow : OpenClaim := { program := "ytinjgiigmlikpaa", sum := "4ce3aaeb431094143bcbb05c116a8045b57775daca3bf8d83ff2f824cbc363f0", func := "cobweb/cobweblaw03.GridCenters", spec := "gridCenters", inPlace := ["math/bits.Sub64", "math/bits.Add64"], unfollowed := true, recurses := true, named := ["math/bits.divideError", "math/bits.overflowError"], apart := false }
def GridCentersSaid : Prop := gridCentersRow.holds Try.pinned (OpenSpec.ofChange gridCentersSpec)

/-- ITS FALSE NEIGHBOUR: 'it returns false'. Refute it at one input. -/
def gridCentersWrong : ChangeSpec := { name := "gridCenters", fn := fun _ => fun
  | [d1, d2, d3] => { results := [.lit (.bool false)], args := [d1, d2, d3] }
  | _ => none }
def GridCentersWrongFalsely : Prop := gridCentersRow.holds Try.pinned (OpenSpec.ofChange gridCentersWrong)

/-- 'cobweblaw03.GridHolds': WHATEVER THE INPUT: true; the input reads as it did. -/
def gridHoldsSpec : ChangeSpec := { name := "gridHolds", fn := fun _ => fun
  | [d1, d2, d3] => { results := [.lit (.bool true)], args := [d1, d2, d3] }
  | _ => none }
def gridHoldsRow : OpenClaim := { program := "ytinjgiigmlikpaa", sum := "4ce3aaeb431094143bcbb05c116a8045b57775daca3bf8d83ff2f824cbc363f0", func := "cobweb/cobweblaw03.GridHolds", spec := "gridHolds", inPlace := ["math/bits.Sub64", "math/bits.Add64"], unfollowed := true, recurses := true, named := ["math/bits.divideError", "math/bits.overflowError"], apart := false }
def GridHoldsSaid : Prop := gridHoldsRow.holds Try.pinned (OpenSpec.ofChange gridHoldsSpec)

/-- ITS FALSE NEIGHBOUR: 'it returns false'. Refute it at one input. -/
def gridHoldsWrong : ChangeSpec := { name := "gridHolds", fn := fun _ => fun
  | [d1, d2, d3] => { results := [.lit (.bool false)], args := [d1, d2, d3] }
  | _ => none }
def GridHoldsWrongFalsely : Prop := gridHoldsRow.holds Try.pinned (OpenSpec.ofChange gridHoldsWrong)

/-- 'cobweblaw03.GridOrders': WHATEVER THE INPUT: true; the input reads as it did. -/
def gridOrdersSpec : ChangeSpec := { name := "gridOrders", fn := fun _ => fun
  | [d1, d2, d3] => { results := [.lit (.bool true)], args := [d1, d2, d3] }
  | _ => none }
def gridOrdersRow : OpenClaim := { program := "ytinjgiigmlikpaa", sum := "4ce3aaeb431094143bcbb05c116a8045b57775daca3bf8d83ff2f824cbc363f0", func := "cobweb/cobweblaw03.GridOrders", spec := "gridOrders", inPlace := ["math/bits.Sub64", "math/bits.Add64"], unfollowed := true, recurses := true, named := ["math/bits.divideError", "math/bits.overflowError"], apart := false }
def GridOrdersSaid : Prop := gridOrdersRow.holds Try.pinned (OpenSpec.ofChange gridOrdersSpec)

/-- ITS FALSE NEIGHBOUR: 'it returns false'. Refute it at one input. -/
def gridOrdersWrong : ChangeSpec := { name := "gridOrders", fn := fun _ => fun
  | [d1, d2, d3] => { results := [.lit (.bool false)], args := [d1, d2, d3] }
  | _ => none }
def GridOrdersWrongFalsely : Prop := gridOrdersRow.holds Try.pinned (OpenSpec.ofChange gridOrdersWrong)

/-- 'cobweblaw03.GridCoarse': WHATEVER THE INPUT: true; the input reads as it did. -/
def gridCoarseSpec : ChangeSpec := { name := "gridCoarse", fn := fun _ => fun
  | [d1, d2, d3] => { results := [.lit (.bool true)], args := [d1, d2, d3] }
  | _ => none }
def gridCoarseRow : OpenClaim := { program := "ytinjgiigmlikpaa", sum := "4ce3aaeb431094143bcbb05c116a8045b57775daca3bf8d83ff2f824cbc363f0", func := "cobweb/cobweblaw03.GridCoarse", spec := "gridCoarse", inPlace := ["math/bits.Sub64", "math/bits.Add64"], unfollowed := true, recurses := true, named := ["math/bits.divideError", "math/bits.overflowError"], apart := false }
def GridCoarseSaid : Prop := gridCoarseRow.holds Try.pinned (OpenSpec.ofChange gridCoarseSpec)

/-- ITS FALSE NEIGHBOUR: 'it returns false'. Refute it at one input. -/
def gridCoarseWrong : ChangeSpec := { name := "gridCoarse", fn := fun _ => fun
  | [d1, d2, d3] => { results := [.lit (.bool false)], args := [d1, d2, d3] }
  | _ => none }
def GridCoarseWrongFalsely : Prop := gridCoarseRow.holds Try.pinned (OpenSpec.ofChange gridCoarseWrong)

/-- 'cobweblaw03.GridMoves': WHATEVER THE INPUT: true; the input reads as it did. -/
def gridMovesSpec : ChangeSpec := { name := "gridMoves", fn := fun _ => fun
  | [d1, d2, d3] => { results := [.lit (.bool true)], args := [d1, d2, d3] }
  | _ => none }
def gridMovesRow : OpenClaim := { program := "ytinjgiigmlikpaa", sum := "4ce3aaeb431094143bcbb05c116a8045b57775daca3bf8d83ff2f824cbc363f0", func := "cobweb/cobweblaw03.GridMoves", spec := "gridMoves", inPlace := ["math/bits.Sub64", "math/bits.Add64"], unfollowed := true, recurses := true, named := ["math/bits.divideError", "math/bits.overflowError"], apart := false }
def GridMovesSaid : Prop := gridMovesRow.holds Try.pinned (OpenSpec.ofChange gridMovesSpec)

/-- ITS FALSE NEIGHBOUR: 'it returns false'. Refute it at one input. -/
def gridMovesWrong : ChangeSpec := { name := "gridMoves", fn := fun _ => fun
  | [d1, d2, d3] => { results := [.lit (.bool false)], args := [d1, d2, d3] }
  | _ => none }
def GridMovesWrongFalsely : Prop := gridMovesRow.holds Try.pinned (OpenSpec.ofChange gridMovesWrong)

/- THE SECOND FORM. 'bulk': how many values and letters a reading holds, each counted each time it is reached (what is shared counts as often as it is met; a slice's spare places count too). A statement '..UptoSaid' is the law's where the arguments, and the package variables that the reading takes, are together of bulk at most 1048576: NARROWER than '..Said'. Prove '..Said' where nothing that the law and all that it calls make is longer than what came in: it says more and counts as full. Else prove '..UptoSaid'. A law counts once. -/
mutual
def uptoBulk {H : Type} : DataW H → Nat
  | .lit (.string bytes) => bytes.length + 1
  | .lit _ => 1
  | .nil => 1
  | .ptr d => uptoBulk d + 1
  | .slice elems spare => uptoBulkAll elems + uptoBulkAll spare + 1
  | .agg parts => uptoBulkAll parts + 1
  | .iface _ d => uptoBulk d + 1
  | .map entries => uptoBulkEntries entries + 1
  | .held _ => 1
def uptoBulkAll {H : Type} : List (DataW H) → Nat
  | [] => 0
  | d :: r => uptoBulk d + uptoBulkAll r
def uptoBulkEntries {H : Type} : List (Lit × DataW H) → Nat
  | [] => 0
  | x :: r => uptoBulkEntry x + uptoBulkEntries r
def uptoBulkEntry {H : Type} : Lit × DataW H → Nat
  | (.string bytes, d) => bytes.length + uptoBulk d + 1
  | (_, d) => uptoBulk d + 1
 end
def uptoSmall : (H : Type) → List (DataW H) → Bool := fun _ ds => decide (uptoBulkAll ds ≤ 1048576)
def OpenSpec.upto (s : _root_.Go.ChangeSpec) : _root_.Go.OpenSpec := { _root_.Go.OpenSpec.ofChange s with cond := some uptoSmall }

/-- 'cobweblaw02.FracMakes', WHERE WHAT IT READS IS OF BULK AT MOST 1048576: true; the input reads as it did. -/
def fracMakesUptoRow : OpenClaim := { program := "ytinjgiigmlikpaa", sum := "4ce3aaeb431094143bcbb05c116a8045b57775daca3bf8d83ff2f824cbc363f0", func := "cobweb/cobweblaw02.FracMakes", spec := "fracMakes", inPlace := ["math/bits.Sub64", "math/bits.Add64"], named := ["math/bits.divideError", "math/bits.overflowError"], apart := false, narrowed := true }
def FracMakesUptoSaid : Prop := fracMakesUptoRow.holds Try.pinned (OpenSpec.upto fracMakesSpec)

/-- 'cobweblaw02.FracSnaps', WHERE WHAT IT READS IS OF BULK AT MOST 1048576: true; the input reads as it did. -/
def fracSnapsUptoRow : OpenClaim := { program := "ytinjgiigmlikpaa", sum := "4ce3aaeb431094143bcbb05c116a8045b57775daca3bf8d83ff2f824cbc363f0", func := "cobweb/cobweblaw02.FracSnaps", spec := "fracSnaps", inPlace := ["math/bits.Sub64", "math/bits.Add64"], named := ["math/bits.divideError", "math/bits.overflowError"], apart := false, narrowed := true }
def FracSnapsUptoSaid : Prop := fracSnapsUptoRow.holds Try.pinned (OpenSpec.upto fracSnapsSpec)

/-- 'cobweblaw02.FracRises', WHERE WHAT IT READS IS OF BULK AT MOST 1048576: true; the input reads as it did. -/
def fracRisesUptoRow : OpenClaim := { program := "ytinjgiigmlikpaa", sum := "4ce3aaeb431094143bcbb05c116a8045b57775daca3bf8d83ff2f824cbc363f0", func := "cobweb/cobweblaw02.FracRises", spec := "fracRises", inPlace := ["math/bits.Sub64", "math/bits.Add64"], named := ["math/bits.divideError", "math/bits.overflowError"], apart := false, narrowed := true }
def FracRisesUptoSaid : Prop := fracRisesUptoRow.holds Try.pinned (OpenSpec.upto fracRisesSpec)

/-- 'cobweblaw03.GridSnaps', WHERE WHAT IT READS IS OF BULK AT MOST 1048576: true; the input reads as it did. -/
def gridSnapsUptoRow : OpenClaim := { program := "ytinjgiigmlikpaa", sum := "4ce3aaeb431094143bcbb05c116a8045b57775daca3bf8d83ff2f824cbc363f0", func := "cobweb/cobweblaw03.GridSnaps", spec := "gridSnaps", inPlace := ["math/bits.Sub64", "math/bits.Add64"], unfollowed := true, recurses := true, named := ["math/bits.divideError", "math/bits.overflowError"], apart := false, narrowed := true }
def GridSnapsUptoSaid : Prop := gridSnapsUptoRow.holds Try.pinned (OpenSpec.upto gridSnapsSpec)

/-- 'cobweblaw03.GridAt', WHERE WHAT IT READS IS OF BULK AT MOST 1048576: true; the input reads as it did. -/
def gridAtUptoRow : OpenClaim := { program := "ytinjgiigmlikpaa", sum := "4ce3aaeb431094143bcbb05c116a8045b57775daca3bf8d83ff2f824cbc363f0", func := "cobweb/cobweblaw03.GridAt", spec := "gridAt", inPlace := ["math/bits.Sub64", "math/bits.Add64"], unfollowed := true, recurses := true, named := ["math/bits.divideError", "math/bits.overflowError"], apart := false, narrowed := true }
def GridAtUptoSaid : Prop := gridAtUptoRow.holds Try.pinned (OpenSpec.upto gridAtSpec)

/-- 'cobweblaw03.GridCenters', WHERE WHAT IT READS IS OF BULK AT MOST 1048576: true; the input reads as it did. -/
def gridCentersUptoRow : OpenClaim := { program := "ytinjgiigmlikpaa", sum := "4ce3aaeb431094143bcbb05c116a8045b57775daca3bf8d83ff2f824cbc363f0", func := "cobweb/cobweblaw03.GridCenters", spec := "gridCenters", inPlace := ["math/bits.Sub64", "math/bits.Add64"], unfollowed := true, recurses := true, named := ["math/bits.divideError", "math/bits.overflowError"], apart := false, narrowed := true }
def GridCentersUptoSaid : Prop := gridCentersUptoRow.holds Try.pinned (OpenSpec.upto gridCentersSpec)

/-- 'cobweblaw03.GridHolds', WHERE WHAT IT READS IS OF BULK AT MOST 1048576: true; the input reads as it did. -/
def gridHoldsUptoRow : OpenClaim := { program := "ytinjgiigmlikpaa", sum := "4ce3aaeb431094143bcbb05c116a8045b57775daca3bf8d83ff2f824cbc363f0", func := "cobweb/cobweblaw03.GridHolds", spec := "gridHolds", inPlace := ["math/bits.Sub64", "math/bits.Add64"], unfollowed := true, recurses := true, named := ["math/bits.divideError", "math/bits.overflowError"], apart := false, narrowed := true }
def GridHoldsUptoSaid : Prop := gridHoldsUptoRow.holds Try.pinned (OpenSpec.upto gridHoldsSpec)

/-- 'cobweblaw03.GridOrders', WHERE WHAT IT READS IS OF BULK AT MOST 1048576: true; the input reads as it did. -/
def gridOrdersUptoRow : OpenClaim := { program := "ytinjgiigmlikpaa", sum := "4ce3aaeb431094143bcbb05c116a8045b57775daca3bf8d83ff2f824cbc363f0", func := "cobweb/cobweblaw03.GridOrders", spec := "gridOrders", inPlace := ["math/bits.Sub64", "math/bits.Add64"], unfollowed := true, recurses := true, named := ["math/bits.divideError", "math/bits.overflowError"], apart := false, narrowed := true }
def GridOrdersUptoSaid : Prop := gridOrdersUptoRow.holds Try.pinned (OpenSpec.upto gridOrdersSpec)

/-- 'cobweblaw03.GridCoarse', WHERE WHAT IT READS IS OF BULK AT MOST 1048576: true; the input reads as it did. -/
def gridCoarseUptoRow : OpenClaim := { program := "ytinjgiigmlikpaa", sum := "4ce3aaeb431094143bcbb05c116a8045b57775daca3bf8d83ff2f824cbc363f0", func := "cobweb/cobweblaw03.GridCoarse", spec := "gridCoarse", inPlace := ["math/bits.Sub64", "math/bits.Add64"], unfollowed := true, recurses := true, named := ["math/bits.divideError", "math/bits.overflowError"], apart := false, narrowed := true }
def GridCoarseUptoSaid : Prop := gridCoarseUptoRow.holds Try.pinned (OpenSpec.upto gridCoarseSpec)

/-- 'cobweblaw03.GridMoves', WHERE WHAT IT READS IS OF BULK AT MOST 1048576: true; the input reads as it did. -/
def gridMovesUptoRow : OpenClaim := { program := "ytinjgiigmlikpaa", sum := "4ce3aaeb431094143bcbb05c116a8045b57775daca3bf8d83ff2f824cbc363f0", func := "cobweb/cobweblaw03.GridMoves", spec := "gridMoves", inPlace := ["math/bits.Sub64", "math/bits.Add64"], unfollowed := true, recurses := true, named := ["math/bits.divideError", "math/bits.overflowError"], apart := false, narrowed := true }
def GridMovesUptoSaid : Prop := gridMovesUptoRow.holds Try.pinned (OpenSpec.upto gridMovesSpec)

end Rows
end Go.Proofs.Ytinjgiigmlikpaa
