/-
  No cell of these rows narrows 'for every input' (looked for: loops, veiled, ifaces, maps, wideKeys, modest, calm, conditions, laid).
  DERIVED. THE GIVEN ROWS OF THIS SEAT. 12 by the template 'for every input the law returns true; each argument reads behind the call as it read before'; 0 by the template 'total and deterministic' (their statements: YtljkapolljgbiaaTotals.lean).
  GIVEN WITH THE SEED: the statements are not yours to turn. If you find one false, say at which input.
  Laid BY PROGRAM, IN A SANDBOX (cutbox-rows.mjs): the forced cells as the released guide's own fill.sh prints them over the translation 6b31c18eafe0be93… (all of the seat's roots in one cut). By AI agents, Wed Nov 11 2026. No macro, syntax, notation, axiom, sorry.
-/
import Derived.Test.YtljkapolljgbiaaChecked
import GoSem.Claim
import GoSem.ClaimJoined
import GoSem.ClaimMapViews
import Derived.JoinedTies
import Derived.KernelRfl
namespace Go.Proofs.Ytljkapolljgbiaa
/- THE CELL 'sum', in the pinned program and in every row, IS THE sha256 OF THE DUMP (.gsa) THAT YtljkapolljgbiaaProg.lean LOADS. Nothing in Lean hashes anything: it is a label: what it is worth is what the hold of that sum in a sandbox is worth. -/
noncomputable def Try.pinned : Pinned := { name := "ytljkapolljgbiaa", sum := "6b31c18eafe0be93a30f381b511462366474bfde4b4ce05426aaad69e423852e", checked := Try.checked }
namespace Rows
def none {H : Type} : Left H := { results := [], args := [] }

/-- 'cobweblaw03.GridCenters': WHATEVER THE INPUT: true; the input reads as it did. -/
def gridCentersSpec : ChangeSpec := { name := "gridCenters", fn := fun _ => fun
  | [d1, d2, d3] => { results := [.lit (.bool true)], args := [d1, d2, d3] }
  | _ => none }
def gridCentersRow : OpenClaim := { program := "ytljkapolljgbiaa", sum := "6b31c18eafe0be93a30f381b511462366474bfde4b4ce05426aaad69e423852e", func := "cobweb/cobweblaw03.GridCenters", spec := "gridCenters", inPlace := ["math/bits.Sub64", "math/bits.Add64"], unfollowed := true, recurses := true, named := ["math/bits.divideError", "math/bits.overflowError"], apart := false }
def GridCentersSaid : Prop := gridCentersRow.holds Try.pinned (OpenSpec.ofChange gridCentersSpec)

/-- ITS FALSE NEIGHBOUR: 'it returns false'. Refute it at one input. -/
def gridCentersWrong : ChangeSpec := { name := "gridCenters", fn := fun _ => fun
  | [d1, d2, d3] => { results := [.lit (.bool false)], args := [d1, d2, d3] }
  | _ => none }
def GridCentersWrongFalsely : Prop := gridCentersRow.holds Try.pinned (OpenSpec.ofChange gridCentersWrong)

/-- 'cobweblaw03.GridHolds': WHATEVER THE INPUT: true; the input reads as it did. -/
def gridHoldsSpec : ChangeSpec := { name := "gridHolds", fn := fun _ => fun
  | [d1, d2, d3] => { results := [.lit (.bool true)], args := [d1, d2, d3] }
  | _ => none }
def gridHoldsRow : OpenClaim := { program := "ytljkapolljgbiaa", sum := "6b31c18eafe0be93a30f381b511462366474bfde4b4ce05426aaad69e423852e", func := "cobweb/cobweblaw03.GridHolds", spec := "gridHolds", inPlace := ["math/bits.Sub64", "math/bits.Add64"], unfollowed := true, recurses := true, named := ["math/bits.divideError", "math/bits.overflowError"], apart := false }
def GridHoldsSaid : Prop := gridHoldsRow.holds Try.pinned (OpenSpec.ofChange gridHoldsSpec)

/-- ITS FALSE NEIGHBOUR: 'it returns false'. Refute it at one input. -/
def gridHoldsWrong : ChangeSpec := { name := "gridHolds", fn := fun _ => fun
  | [d1, d2, d3] => { results := [.lit (.bool false)], args := [d1, d2, d3] }
  | _ => none }
def GridHoldsWrongFalsely : Prop := gridHoldsRow.holds Try.pinned (OpenSpec.ofChange gridHoldsWrong)

/-- 'cobweblaw03.GridCoarse': WHATEVER THE INPUT: true; the input reads as it did. -/
def gridCoarseSpec : ChangeSpec := { name := "gridCoarse", fn := fun _ => fun
  | [d1, d2, d3] => { results := [.lit (.bool true)], args := [d1, d2, d3] }
  | _ => none }
def gridCoarseRow : OpenClaim := { program := "ytljkapolljgbiaa", sum := "6b31c18eafe0be93a30f381b511462366474bfde4b4ce05426aaad69e423852e", func := "cobweb/cobweblaw03.GridCoarse", spec := "gridCoarse", inPlace := ["math/bits.Sub64", "math/bits.Add64"], unfollowed := true, recurses := true, named := ["math/bits.divideError", "math/bits.overflowError"], apart := false }
def GridCoarseSaid : Prop := gridCoarseRow.holds Try.pinned (OpenSpec.ofChange gridCoarseSpec)

/-- ITS FALSE NEIGHBOUR: 'it returns false'. Refute it at one input. -/
def gridCoarseWrong : ChangeSpec := { name := "gridCoarse", fn := fun _ => fun
  | [d1, d2, d3] => { results := [.lit (.bool false)], args := [d1, d2, d3] }
  | _ => none }
def GridCoarseWrongFalsely : Prop := gridCoarseRow.holds Try.pinned (OpenSpec.ofChange gridCoarseWrong)

/-- 'cobweblaw03.GridMoves': WHATEVER THE INPUT: true; the input reads as it did. -/
def gridMovesSpec : ChangeSpec := { name := "gridMoves", fn := fun _ => fun
  | [d1, d2, d3] => { results := [.lit (.bool true)], args := [d1, d2, d3] }
  | _ => none }
def gridMovesRow : OpenClaim := { program := "ytljkapolljgbiaa", sum := "6b31c18eafe0be93a30f381b511462366474bfde4b4ce05426aaad69e423852e", func := "cobweb/cobweblaw03.GridMoves", spec := "gridMoves", inPlace := ["math/bits.Sub64", "math/bits.Add64"], unfollowed := true, recurses := true, named := ["math/bits.divideError", "math/bits.overflowError"], apart := false }
def GridMovesSaid : Prop := gridMovesRow.holds Try.pinned (OpenSpec.ofChange gridMovesSpec)

/-- ITS FALSE NEIGHBOUR: 'it returns false'. Refute it at one input. -/
def gridMovesWrong : ChangeSpec := { name := "gridMoves", fn := fun _ => fun
  | [d1, d2, d3] => { results := [.lit (.bool false)], args := [d1, d2, d3] }
  | _ => none }
def GridMovesWrongFalsely : Prop := gridMovesRow.holds Try.pinned (OpenSpec.ofChange gridMovesWrong)

/-- 'cobweblaw04.PlaneTurns': WHATEVER THE INPUT: true; the input reads as it did. -/
def planeTurnsSpec : ChangeSpec := { name := "planeTurns", fn := fun _ => fun
  | [d1, d2, d3] => { results := [.lit (.bool true)], args := [d1, d2, d3] }
  | _ => none }
def planeTurnsRow : OpenClaim := { program := "ytljkapolljgbiaa", sum := "6b31c18eafe0be93a30f381b511462366474bfde4b4ce05426aaad69e423852e", func := "cobweb/cobweblaw04.PlaneTurns", spec := "planeTurns", apart := false }
def PlaneTurnsSaid : Prop := planeTurnsRow.holds Try.pinned (OpenSpec.ofChange planeTurnsSpec)

/-- ITS FALSE NEIGHBOUR: 'it returns false'. Refute it at one input. -/
def planeTurnsWrong : ChangeSpec := { name := "planeTurns", fn := fun _ => fun
  | [d1, d2, d3] => { results := [.lit (.bool false)], args := [d1, d2, d3] }
  | _ => none }
def PlaneTurnsWrongFalsely : Prop := planeTurnsRow.holds Try.pinned (OpenSpec.ofChange planeTurnsWrong)

/-- 'cobweblaw04.PlaneOrder': WHATEVER THE INPUT: true; the input reads as it did. -/
def planeOrderSpec : ChangeSpec := { name := "planeOrder", fn := fun _ => fun
  | [d1, d2] => { results := [.lit (.bool true)], args := [d1, d2] }
  | _ => none }
def planeOrderRow : OpenClaim := { program := "ytljkapolljgbiaa", sum := "6b31c18eafe0be93a30f381b511462366474bfde4b4ce05426aaad69e423852e", func := "cobweb/cobweblaw04.PlaneOrder", spec := "planeOrder", apart := false }
def PlaneOrderSaid : Prop := planeOrderRow.holds Try.pinned (OpenSpec.ofChange planeOrderSpec)

/-- ITS FALSE NEIGHBOUR: 'it returns false'. Refute it at one input. -/
def planeOrderWrong : ChangeSpec := { name := "planeOrder", fn := fun _ => fun
  | [d1, d2] => { results := [.lit (.bool false)], args := [d1, d2] }
  | _ => none }
def PlaneOrderWrongFalsely : Prop := planeOrderRow.holds Try.pinned (OpenSpec.ofChange planeOrderWrong)

/-- 'cobweblaw04.PlaneOn': WHATEVER THE INPUT: true; the input reads as it did. -/
def planeOnSpec : ChangeSpec := { name := "planeOn", fn := fun _ => fun
  | [d1, d2, d3] => { results := [.lit (.bool true)], args := [d1, d2, d3] }
  | _ => none }
def planeOnRow : OpenClaim := { program := "ytljkapolljgbiaa", sum := "6b31c18eafe0be93a30f381b511462366474bfde4b4ce05426aaad69e423852e", func := "cobweb/cobweblaw04.PlaneOn", spec := "planeOn", apart := false }
def PlaneOnSaid : Prop := planeOnRow.holds Try.pinned (OpenSpec.ofChange planeOnSpec)

/-- ITS FALSE NEIGHBOUR: 'it returns false'. Refute it at one input. -/
def planeOnWrong : ChangeSpec := { name := "planeOn", fn := fun _ => fun
  | [d1, d2, d3] => { results := [.lit (.bool false)], args := [d1, d2, d3] }
  | _ => none }
def PlaneOnWrongFalsely : Prop := planeOnRow.holds Try.pinned (OpenSpec.ofChange planeOnWrong)

/-- 'cobweblaw04.PlaneBoxes': WHATEVER THE INPUT: true; the input reads as it did. -/
def planeBoxesSpec : ChangeSpec := { name := "planeBoxes", fn := fun _ => fun
  | [d1, d2, d3] => { results := [.lit (.bool true)], args := [d1, d2, d3] }
  | _ => none }
def planeBoxesRow : OpenClaim := { program := "ytljkapolljgbiaa", sum := "6b31c18eafe0be93a30f381b511462366474bfde4b4ce05426aaad69e423852e", func := "cobweb/cobweblaw04.PlaneBoxes", spec := "planeBoxes", unfollowed := true, recurses := true, apart := false }
def PlaneBoxesSaid : Prop := planeBoxesRow.holds Try.pinned (OpenSpec.ofChange planeBoxesSpec)

/-- ITS FALSE NEIGHBOUR: 'it returns false'. Refute it at one input. -/
def planeBoxesWrong : ChangeSpec := { name := "planeBoxes", fn := fun _ => fun
  | [d1, d2, d3] => { results := [.lit (.bool false)], args := [d1, d2, d3] }
  | _ => none }
def PlaneBoxesWrongFalsely : Prop := planeBoxesRow.holds Try.pinned (OpenSpec.ofChange planeBoxesWrong)

/-- 'cobweblaw04.PlaneAround': WHATEVER THE INPUT: true; the input reads as it did. -/
def planeAroundSpec : ChangeSpec := { name := "planeAround", fn := fun _ => fun
  | [d1, d2] => { results := [.lit (.bool true)], args := [d1, d2] }
  | _ => none }
def planeAroundRow : OpenClaim := { program := "ytljkapolljgbiaa", sum := "6b31c18eafe0be93a30f381b511462366474bfde4b4ce05426aaad69e423852e", func := "cobweb/cobweblaw04.PlaneAround", spec := "planeAround", apart := false }
def PlaneAroundSaid : Prop := planeAroundRow.holds Try.pinned (OpenSpec.ofChange planeAroundSpec)

/-- ITS FALSE NEIGHBOUR: 'it returns false'. Refute it at one input. -/
def planeAroundWrong : ChangeSpec := { name := "planeAround", fn := fun _ => fun
  | [d1, d2] => { results := [.lit (.bool false)], args := [d1, d2] }
  | _ => none }
def PlaneAroundWrongFalsely : Prop := planeAroundRow.holds Try.pinned (OpenSpec.ofChange planeAroundWrong)

/-- 'cobweblaw04.PlaneAreas': WHATEVER THE INPUT: true; the input reads as it did. -/
def planeAreasSpec : ChangeSpec := { name := "planeAreas", fn := fun _ => fun
  | [d1, d2] => { results := [.lit (.bool true)], args := [d1, d2] }
  | _ => none }
def planeAreasRow : OpenClaim := { program := "ytljkapolljgbiaa", sum := "6b31c18eafe0be93a30f381b511462366474bfde4b4ce05426aaad69e423852e", func := "cobweb/cobweblaw04.PlaneAreas", spec := "planeAreas", apart := false }
def PlaneAreasSaid : Prop := planeAreasRow.holds Try.pinned (OpenSpec.ofChange planeAreasSpec)

/-- ITS FALSE NEIGHBOUR: 'it returns false'. Refute it at one input. -/
def planeAreasWrong : ChangeSpec := { name := "planeAreas", fn := fun _ => fun
  | [d1, d2] => { results := [.lit (.bool false)], args := [d1, d2] }
  | _ => none }
def PlaneAreasWrongFalsely : Prop := planeAreasRow.holds Try.pinned (OpenSpec.ofChange planeAreasWrong)

/-- 'cobweblaw04.PlaneEqual': WHATEVER THE INPUT: true; the input reads as it did. -/
def planeEqualSpec : ChangeSpec := { name := "planeEqual", fn := fun _ => fun
  | [d1, d2] => { results := [.lit (.bool true)], args := [d1, d2] }
  | _ => none }
def planeEqualRow : OpenClaim := { program := "ytljkapolljgbiaa", sum := "6b31c18eafe0be93a30f381b511462366474bfde4b4ce05426aaad69e423852e", func := "cobweb/cobweblaw04.PlaneEqual", spec := "planeEqual", apart := false }
def PlaneEqualSaid : Prop := planeEqualRow.holds Try.pinned (OpenSpec.ofChange planeEqualSpec)

/-- ITS FALSE NEIGHBOUR: 'it returns false'. Refute it at one input. -/
def planeEqualWrong : ChangeSpec := { name := "planeEqual", fn := fun _ => fun
  | [d1, d2] => { results := [.lit (.bool false)], args := [d1, d2] }
  | _ => none }
def PlaneEqualWrongFalsely : Prop := planeEqualRow.holds Try.pinned (OpenSpec.ofChange planeEqualWrong)

/-- 'cobweblaw04.PlaneParts': WHATEVER THE INPUT: true; the input reads as it did. -/
def planePartsSpec : ChangeSpec := { name := "planeParts", fn := fun _ => fun
  | [d1, d2] => { results := [.lit (.bool true)], args := [d1, d2] }
  | _ => none }
def planePartsRow : OpenClaim := { program := "ytljkapolljgbiaa", sum := "6b31c18eafe0be93a30f381b511462366474bfde4b4ce05426aaad69e423852e", func := "cobweb/cobweblaw04.PlaneParts", spec := "planeParts", apart := false }
def PlanePartsSaid : Prop := planePartsRow.holds Try.pinned (OpenSpec.ofChange planePartsSpec)

/-- ITS FALSE NEIGHBOUR: 'it returns false'. Refute it at one input. -/
def planePartsWrong : ChangeSpec := { name := "planeParts", fn := fun _ => fun
  | [d1, d2] => { results := [.lit (.bool false)], args := [d1, d2] }
  | _ => none }
def PlanePartsWrongFalsely : Prop := planePartsRow.holds Try.pinned (OpenSpec.ofChange planePartsWrong)

/- THE SECOND FORM. 'bulk': how many values and letters a reading holds, each counted each time it is reached (what is shared counts as often as it is met; a slice's spare places count too). A statement '..UptoSaid' is the law's where the arguments, and the package variables that the reading takes, are together of bulk at most 1048576: NARROWER than '..Said'. Prove '..Said' where nothing that the law and all that it calls make is longer than what came in: it says more and counts as full. Else prove '..UptoSaid'. A law counts once. -/
mutual
def uptoBulk {H : Type} : DataW H → Nat
  | .lit (.string bytes) => bytes.length + 1
  | .lit _ => 1
  | .nil => 1
  | .ptr d => uptoBulk d + 1
  | .slice elems spare => uptoBulkAll elems + uptoBulkAll spare + 1
  | .agg parts => uptoBulkAll parts + 1
  | .iface _ d => uptoBulk d + 1
  | .map entries => uptoBulkEntries entries + 1
  | .held _ => 1
def uptoBulkAll {H : Type} : List (DataW H) → Nat
  | [] => 0
  | d :: r => uptoBulk d + uptoBulkAll r
def uptoBulkEntries {H : Type} : List (Lit × DataW H) → Nat
  | [] => 0
  | x :: r => uptoBulkEntry x + uptoBulkEntries r
def uptoBulkEntry {H : Type} : Lit × DataW H → Nat
  | (.string bytes, d) => bytes.length + uptoBulk d + 1
  | (_, d) => uptoBulk d + 1
 end
def uptoSmall : (H : Type) → List (DataW H) → Bool := fun _ ds => decide (uptoBulkAll ds ≤ 1048576)
def OpenSpec.upto (s : _root_.Go.ChangeSpec) : _root_.Go.OpenSpec := { _root_.Go.OpenSpec.ofChange s with cond := some uptoSmall }

/-- 'cobweblaw03.GridCenters', WHERE WHAT IT READS IS OF BULK AT MOST 1048576: true; the input reads as it did. -/
def gridCentersUptoRow : OpenClaim := { program := "ytljkapolljgbiaa", sum := "6b31c18eafe0be93a30f381b511462366474bfde4b4ce05426aaad69e423852e", func := "cobweb/cobweblaw03.GridCenters", spec := "gridCenters", inPlace := ["math/bits.Sub64", "math/bits.Add64"], unfollowed := true, recurses := true, named := ["math/bits.divideError", "math/bits.overflowError"], apart := false, narrowed := true }
def GridCentersUptoSaid : Prop := gridCentersUptoRow.holds Try.pinned (OpenSpec.upto gridCentersSpec)

/-- 'cobweblaw03.GridHolds', WHERE WHAT IT READS IS OF BULK AT MOST 1048576: true; the input reads as it did. -/
def gridHoldsUptoRow : OpenClaim := { program := "ytljkapolljgbiaa", sum := "6b31c18eafe0be93a30f381b511462366474bfde4b4ce05426aaad69e423852e", func := "cobweb/cobweblaw03.GridHolds", spec := "gridHolds", inPlace := ["math/bits.Sub64", "math/bits.Add64"], unfollowed := true, recurses := true, named := ["math/bits.divideError", "math/bits.overflowError"], apart := false, narrowed := true }
def GridHoldsUptoSaid : Prop := gridHoldsUptoRow.holds Try.pinned (OpenSpec.upto gridHoldsSpec)

/-- 'cobweblaw03.GridCoarse', WHERE WHAT IT READS IS OF BULK AT MOST 1048576: true; the input reads as it did. -/
def gridCoarseUptoRow : OpenClaim := { program := "ytljkapolljgbiaa", sum := "6b31c18eafe0be93a30f381b511462366474bfde4b4ce05426aaad69e423852e", func := "cobweb/cobweblaw03.GridCoarse", spec := "gridCoarse", inPlace := ["math/bits.Sub64", "math/bits.Add64"], unfollowed := true, recurses := true, named := ["math/bits.divideError", "math/bits.overflowError"], apart := false, narrowed := true }
def GridCoarseUptoSaid : Prop := gridCoarseUptoRow.holds Try.pinned (OpenSpec.upto gridCoarseSpec)

/-- 'cobweblaw03.GridMoves', WHERE WHAT IT READS IS OF BULK AT MOST 1048576: true; the input reads as it did. -/
def gridMovesUptoRow : OpenClaim := { program := "ytljkapolljgbiaa", sum := "6b31c18eafe0be93a30f381b511462366474bfde4b4ce05426aaad69e423852e", func := "cobweb/cobweblaw03.GridMoves", spec := "gridMoves", inPlace := ["math/bits.Sub64", "math/bits.Add64"], unfollowed := true, recurses := true, named := ["math/bits.divideError", "math/bits.overflowError"], apart := false, narrowed := true }
def GridMovesUptoSaid : Prop := gridMovesUptoRow.holds Try.pinned (OpenSpec.upto gridMovesSpec)

/-- 'cobweblaw04.PlaneTurns', WHERE WHAT IT READS IS OF BULK AT MOST 1048576: true; the input reads as it did. -/
def planeTurnsUptoRow : OpenClaim := { program := "ytljkapolljgbiaa", sum := "6b31c18eafe0be93a30f381b511462366474bfde4b4ce05426aaad69e423852e", func := "cobweb/cobweblaw04.PlaneTurns", spec := "planeTurns", apart := false, narrowed := true }
def PlaneTurnsUptoSaid : Prop := planeTurnsUptoRow.holds Try.pinned (OpenSpec.upto planeTurnsSpec)

/-- 'cobweblaw04.PlaneOrder', WHERE WHAT IT READS IS OF BULK AT MOST 1048576: true; the input reads as it did. -/
def planeOrderUptoRow : OpenClaim := { program := "ytljkapolljgbiaa", sum := "6b31c18eafe0be93a30f381b511462366474bfde4b4ce05426aaad69e423852e", func := "cobweb/cobweblaw04.PlaneOrder", spec := "planeOrder", apart := false, narrowed := true }
def PlaneOrderUptoSaid : Prop := planeOrderUptoRow.holds Try.pinned (OpenSpec.upto planeOrderSpec)

/-- 'cobweblaw04.PlaneOn', WHERE WHAT IT READS IS OF BULK AT MOST 1048576: true; the input reads as it did. -/
def planeOnUptoRow : OpenClaim := { program := "ytljkapolljgbiaa", sum := "6b31c18eafe0be93a30f381b511462366474bfde4b4ce05426aaad69e423852e", func := "cobweb/cobweblaw04.PlaneOn", spec := "planeOn", apart := false, narrowed := true }
def PlaneOnUptoSaid : Prop := planeOnUptoRow.holds Try.pinned (OpenSpec.upto planeOnSpec)

/-- 'cobweblaw04.PlaneBoxes', WHERE WHAT IT READS IS OF BULK AT MOST 1048576: true; the input reads as it did. -/
def planeBoxesUptoRow : OpenClaim := { program := "ytljkapolljgbiaa", sum := "6b31c18eafe0be93a30f381b511462366474bfde4b4ce05426aaad69e423852e", func := "cobweb/cobweblaw04.PlaneBoxes", spec := "planeBoxes", unfollowed := true, recurses := true, apart := false, narrowed := true }
def PlaneBoxesUptoSaid : Prop := planeBoxesUptoRow.holds Try.pinned (OpenSpec.upto planeBoxesSpec)

/-- 'cobweblaw04.PlaneAround', WHERE WHAT IT READS IS OF BULK AT MOST 1048576: true; the input reads as it did. -/
def planeAroundUptoRow : OpenClaim := { program := "ytljkapolljgbiaa", sum := "6b31c18eafe0be93a30f381b511462366474bfde4b4ce05426aaad69e423852e", func := "cobweb/cobweblaw04.PlaneAround", spec := "planeAround", apart := false, narrowed := true }
def PlaneAroundUptoSaid : Prop := planeAroundUptoRow.holds Try.pinned (OpenSpec.upto planeAroundSpec)

/-- 'cobweblaw04.PlaneAreas', WHERE WHAT IT READS IS OF BULK AT MOST 1048576: true; the input reads as it did. -/
def planeAreasUptoRow : OpenClaim := { program := "ytljkapolljgbiaa", sum := "6b31c18eafe0be93a30f381b511462366474bfde4b4ce05426aaad69e423852e", func := "cobweb/cobweblaw04.PlaneAreas", spec := "planeAreas", apart := false, narrowed := true }
def PlaneAreasUptoSaid : Prop := planeAreasUptoRow.holds Try.pinned (OpenSpec.upto planeAreasSpec)

/-- 'cobweblaw04.PlaneEqual', WHERE WHAT IT READS IS OF BULK AT MOST 1048576: true; the input reads as it did. -/
def planeEqualUptoRow : OpenClaim := { program := "ytljkapolljgbiaa", sum := "6b31c18eafe0be93a30f381b511462366474bfde4b4ce05426aaad69e423852e", func := "cobweb/cobweblaw04.PlaneEqual", spec := "planeEqual", apart := false, narrowed := true }
def PlaneEqualUptoSaid : Prop := planeEqualUptoRow.holds Try.pinned (OpenSpec.upto planeEqualSpec)

/-- 'cobweblaw04.PlaneParts', WHERE WHAT IT READS IS OF BULK AT MOST 1048576: true; the input reads as it did. -/
def planePartsUptoRow : OpenClaim := { program := "ytljkapolljgbiaa", sum := "6b31c18eafe0be93a30f381b511462366474bfde4b4ce05426aaad69e423852e", func := "cobweb/cobweblaw04.PlaneParts", spec := "planeParts", apart := false, narrowed := true }
def PlanePartsUptoSaid : Prop := planePartsUptoRow.holds Try.pinned (OpenSpec.upto planePartsSpec)

end Rows
end Go.Proofs.Ytljkapolljgbiaa
