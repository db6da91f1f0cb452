/-
  No cell of these rows narrows 'for every input' (looked for: loops, veiled, ifaces, maps, wideKeys, modest, calm, conditions, laid).
  DERIVED. THE GIVEN ROWS OF THIS SEAT. 7 by the template 'for every input the law returns true; each argument reads behind the call as it read before'; 0 by the template 'total and deterministic' (their statements: YtdmjccbpghilcaaTotals.lean).
  GIVEN WITH THE SEED: the statements are not yours to turn. If you find one false, say at which input.
  Laid BY PROGRAM, IN A SANDBOX (cutbox-rows.mjs): the forced cells as the released guide's own fill.sh prints them over the translation f7b5e65f9fdb3d37… (all of the seat's roots in one cut). By AI agents, Wed Nov 11 2026. No macro, syntax, notation, axiom, sorry.
-/
import Derived.Test.YtdmjccbpghilcaaChecked
import GoSem.Claim
import GoSem.ClaimJoined
import GoSem.ClaimMapViews
import Derived.JoinedTies
import Derived.KernelRfl
namespace Go.Proofs.Ytdmjccbpghilcaa
/- THE CELL 'sum', in the pinned program and in every row, IS THE sha256 OF THE DUMP (.gsa) THAT YtdmjccbpghilcaaProg.lean LOADS. Nothing in Lean hashes anything: it is a label: what it is worth is what the hold of that sum in a sandbox is worth. -/
noncomputable def Try.pinned : Pinned := { name := "ytdmjccbpghilcaa", sum := "f7b5e65f9fdb3d3751adac89d099fea7169647e6184d63d891fb9c3f16d43e27", checked := Try.checked }
namespace Rows
def none {H : Type} : Left H := { results := [], args := [] }

/-- 'cobweblaw02.FracMakes': WHATEVER THE INPUT: true; the input reads as it did. -/
def fracMakesSpec : ChangeSpec := { name := "fracMakes", fn := fun _ => fun
  | [d1, d2, d3] => { results := [.lit (.bool true)], args := [d1, d2, d3] }
  | _ => none }
def fracMakesRow : OpenClaim := { program := "ytdmjccbpghilcaa", sum := "f7b5e65f9fdb3d3751adac89d099fea7169647e6184d63d891fb9c3f16d43e27", func := "cobweb/cobweblaw02.FracMakes", spec := "fracMakes", inPlace := ["math/bits.Sub64", "math/bits.Add64"], named := ["math/bits.divideError", "math/bits.overflowError"], apart := false }
def FracMakesSaid : Prop := fracMakesRow.holds Try.pinned (OpenSpec.ofChange fracMakesSpec)

/-- ITS FALSE NEIGHBOUR: 'it returns false'. Refute it at one input. -/
def fracMakesWrong : ChangeSpec := { name := "fracMakes", fn := fun _ => fun
  | [d1, d2, d3] => { results := [.lit (.bool false)], args := [d1, d2, d3] }
  | _ => none }
def FracMakesWrongFalsely : Prop := fracMakesRow.holds Try.pinned (OpenSpec.ofChange fracMakesWrong)

/-- 'cobweblaw02.FracOrders': WHATEVER THE INPUT: true; the input reads as it did. -/
def fracOrdersSpec : ChangeSpec := { name := "fracOrders", fn := fun _ => fun
  | [d1, d2] => { results := [.lit (.bool true)], args := [d1, d2] }
  | _ => none }
def fracOrdersRow : OpenClaim := { program := "ytdmjccbpghilcaa", sum := "f7b5e65f9fdb3d3751adac89d099fea7169647e6184d63d891fb9c3f16d43e27", func := "cobweb/cobweblaw02.FracOrders", spec := "fracOrders", inPlace := ["math/bits.Sub64", "math/bits.Add64"], named := ["math/bits.divideError", "math/bits.overflowError"], apart := false }
def FracOrdersSaid : Prop := fracOrdersRow.holds Try.pinned (OpenSpec.ofChange fracOrdersSpec)

/-- ITS FALSE NEIGHBOUR: 'it returns false'. Refute it at one input. -/
def fracOrdersWrong : ChangeSpec := { name := "fracOrders", fn := fun _ => fun
  | [d1, d2] => { results := [.lit (.bool false)], args := [d1, d2] }
  | _ => none }
def FracOrdersWrongFalsely : Prop := fracOrdersRow.holds Try.pinned (OpenSpec.ofChange fracOrdersWrong)

/-- 'cobweblaw02.FracFloors': WHATEVER THE INPUT: true; the input reads as it did. -/
def fracFloorsSpec : ChangeSpec := { name := "fracFloors", fn := fun _ => fun
  | [d] => { results := [.lit (.bool true)], args := [d] }
  | _ => none }
def fracFloorsRow : OpenClaim := { program := "ytdmjccbpghilcaa", sum := "f7b5e65f9fdb3d3751adac89d099fea7169647e6184d63d891fb9c3f16d43e27", func := "cobweb/cobweblaw02.FracFloors", spec := "fracFloors", inPlace := ["math/bits.Sub64", "math/bits.Add64"], named := ["math/bits.divideError", "math/bits.overflowError"], apart := false }
def FracFloorsSaid : Prop := fracFloorsRow.holds Try.pinned (OpenSpec.ofChange fracFloorsSpec)

/-- ITS FALSE NEIGHBOUR: 'it returns false'. Refute it at one input. -/
def fracFloorsWrong : ChangeSpec := { name := "fracFloors", fn := fun _ => fun
  | [d] => { results := [.lit (.bool false)], args := [d] }
  | _ => none }
def FracFloorsWrongFalsely : Prop := fracFloorsRow.holds Try.pinned (OpenSpec.ofChange fracFloorsWrong)

/-- 'cobweblaw02.FracSnaps': WHATEVER THE INPUT: true; the input reads as it did. -/
def fracSnapsSpec : ChangeSpec := { name := "fracSnaps", fn := fun _ => fun
  | [d1, d2] => { results := [.lit (.bool true)], args := [d1, d2] }
  | _ => none }
def fracSnapsRow : OpenClaim := { program := "ytdmjccbpghilcaa", sum := "f7b5e65f9fdb3d3751adac89d099fea7169647e6184d63d891fb9c3f16d43e27", func := "cobweb/cobweblaw02.FracSnaps", spec := "fracSnaps", inPlace := ["math/bits.Sub64", "math/bits.Add64"], named := ["math/bits.divideError", "math/bits.overflowError"], apart := false }
def FracSnapsSaid : Prop := fracSnapsRow.holds Try.pinned (OpenSpec.ofChange fracSnapsSpec)

/-- ITS FALSE NEIGHBOUR: 'it returns false'. Refute it at one input. -/
def fracSnapsWrong : ChangeSpec := { name := "fracSnaps", fn := fun _ => fun
  | [d1, d2] => { results := [.lit (.bool false)], args := [d1, d2] }
  | _ => none }
def FracSnapsWrongFalsely : Prop := fracSnapsRow.holds Try.pinned (OpenSpec.ofChange fracSnapsWrong)

/-- 'cobweblaw02.FracRises': WHATEVER THE INPUT: true; the input reads as it did. -/
def fracRisesSpec : ChangeSpec := { name := "fracRises", fn := fun _ => fun
  | [d1, d2, d3] => { results := [.lit (.bool true)], args := [d1, d2, d3] }
  | _ => none }
def fracRisesRow : OpenClaim := { program := "ytdmjccbpghilcaa", sum := "f7b5e65f9fdb3d3751adac89d099fea7169647e6184d63d891fb9c3f16d43e27", func := "cobweb/cobweblaw02.FracRises", spec := "fracRises", inPlace := ["math/bits.Sub64", "math/bits.Add64"], named := ["math/bits.divideError", "math/bits.overflowError"], apart := false }
def FracRisesSaid : Prop := fracRisesRow.holds Try.pinned (OpenSpec.ofChange fracRisesSpec)

/-- ITS FALSE NEIGHBOUR: 'it returns false'. Refute it at one input. -/
def fracRisesWrong : ChangeSpec := { name := "fracRises", fn := fun _ => fun
  | [d1, d2, d3] => { results := [.lit (.bool false)], args := [d1, d2, d3] }
  | _ => none }
def FracRisesWrongFalsely : Prop := fracRisesRow.holds Try.pinned (OpenSpec.ofChange fracRisesWrong)

/-- 'cobweblaw02.FracScales': WHATEVER THE INPUT: true; the input reads as it did. -/
def fracScalesSpec : ChangeSpec := { name := "fracScales", fn := fun _ => fun
  | [d1, d2, d3] => { results := [.lit (.bool true)], args := [d1, d2, d3] }
  | _ => none }
def fracScalesRow : OpenClaim := { program := "ytdmjccbpghilcaa", sum := "f7b5e65f9fdb3d3751adac89d099fea7169647e6184d63d891fb9c3f16d43e27", func := "cobweb/cobweblaw02.FracScales", spec := "fracScales", inPlace := ["math/bits.Sub64", "math/bits.Add64"], named := ["math/bits.divideError", "math/bits.overflowError"], apart := false }
def FracScalesSaid : Prop := fracScalesRow.holds Try.pinned (OpenSpec.ofChange fracScalesSpec)

/-- ITS FALSE NEIGHBOUR: 'it returns false'. Refute it at one input. -/
def fracScalesWrong : ChangeSpec := { name := "fracScales", fn := fun _ => fun
  | [d1, d2, d3] => { results := [.lit (.bool false)], args := [d1, d2, d3] }
  | _ => none }
def FracScalesWrongFalsely : Prop := fracScalesRow.holds Try.pinned (OpenSpec.ofChange fracScalesWrong)

/-- 'cobweblaw02.FracTurned': WHATEVER THE INPUT: true; the input reads as it did. -/
def fracTurnedSpec : ChangeSpec := { name := "fracTurned", fn := fun _ => fun
  | [d1, d2] => { results := [.lit (.bool true)], args := [d1, d2] }
  | _ => none }
def fracTurnedRow : OpenClaim := { program := "ytdmjccbpghilcaa", sum := "f7b5e65f9fdb3d3751adac89d099fea7169647e6184d63d891fb9c3f16d43e27", func := "cobweb/cobweblaw02.FracTurned", spec := "fracTurned", inPlace := ["math/bits.Sub64", "math/bits.Add64"], named := ["math/bits.divideError", "math/bits.overflowError"], apart := false }
def FracTurnedSaid : Prop := fracTurnedRow.holds Try.pinned (OpenSpec.ofChange fracTurnedSpec)

/-- ITS FALSE NEIGHBOUR: 'it returns false'. Refute it at one input. -/
def fracTurnedWrong : ChangeSpec := { name := "fracTurned", fn := fun _ => fun
  | [d1, d2] => { results := [.lit (.bool false)], args := [d1, d2] }
  | _ => none }
def FracTurnedWrongFalsely : Prop := fracTurnedRow.holds Try.pinned (OpenSpec.ofChange fracTurnedWrong)

/- THE SECOND FORM. 'bulk': how many values and letters a reading holds, each counted each time it is reached (what is shared counts as often as it is met; a slice's spare places count too). A statement '..UptoSaid' is the law's where the arguments, and the package variables that the reading takes, are together of bulk at most 1048576: NARROWER than '..Said'. Prove '..Said' where nothing that the law and all that it calls make is longer than what came in: it says more and counts as full. Else prove '..UptoSaid'. A law counts once. -/
mutual
def uptoBulk {H : Type} : DataW H → Nat
  | .lit (.string bytes) => bytes.length + 1
  | .lit _ => 1
  | .nil => 1
  | .ptr d => uptoBulk d + 1
  | .slice elems spare => uptoBulkAll elems + uptoBulkAll spare + 1
  | .agg parts => uptoBulkAll parts + 1
  | .iface _ d => uptoBulk d + 1
  | .map entries => uptoBulkEntries entries + 1
  | .held _ => 1
def uptoBulkAll {H : Type} : List (DataW H) → Nat
  | [] => 0
  | d :: r => uptoBulk d + uptoBulkAll r
def uptoBulkEntries {H : Type} : List (Lit × DataW H) → Nat
  | [] => 0
  | x :: r => uptoBulkEntry x + uptoBulkEntries r
def uptoBulkEntry {H : Type} : Lit × DataW H → Nat
  | (.string bytes, d) => bytes.length + uptoBulk d + 1
  | (_, d) => uptoBulk d + 1
 end
def uptoSmall : (H : Type) → List (DataW H) → Bool := fun _ ds => decide (uptoBulkAll ds ≤ 1048576)
def OpenSpec.upto (s : _root_.Go.ChangeSpec) : _root_.Go.OpenSpec := { _root_.Go.OpenSpec.ofChange s with cond := some uptoSmall }

/-- 'cobweblaw02.FracMakes', WHERE WHAT IT READS IS OF BULK AT MOST 1048576: true; the input reads as it did. -/
def fracMakesUptoRow : OpenClaim := { program := "ytdmjccbpghilcaa", sum := "f7b5e65f9fdb3d3751adac89d099fea7169647e6184d63d891fb9c3f16d43e27", func := "cobweb/cobweblaw02.FracMakes", spec := "fracMakes", inPlace := ["math/bits.Sub64", "math/bits.Add64"], named := ["math/bits.divideError", "math/bits.overflowError"], apart := false, narrowed := true }
def FracMakesUptoSaid : Prop := fracMakesUptoRow.holds Try.pinned (OpenSpec.upto fracMakesSpec)

/-- 'cobweblaw02.FracOrders', WHERE WHAT IT READS IS OF BULK AT MOST 1048576: true; the input reads as it did. -/
def fracOrdersUptoRow : OpenClaim := { program := "ytdmjccbpghilcaa", sum := "f7b5e65f9fdb3d3751adac89d099fea7169647e6184d63d891fb9c3f16d43e27", func := "cobweb/cobweblaw02.FracOrders", spec := "fracOrders", inPlace := ["math/bits.Sub64", "math/bits.Add64"], named := ["math/bits.divideError", "math/bits.overflowError"], apart := false, narrowed := true }
def FracOrdersUptoSaid : Prop := fracOrdersUptoRow.holds Try.pinned (OpenSpec.upto fracOrdersSpec)

/-- 'cobweblaw02.FracFloors', WHERE WHAT IT READS IS OF BULK AT MOST 1048576: true; the input reads as it did. -/
def fracFloorsUptoRow : OpenClaim := { program := "ytdmjccbpghilcaa", sum := "f7b5e65f9fdb3d3751adac89d099fea7169647e6184d63d891fb9c3f16d43e27", func := "cobweb/cobweblaw02.FracFloors", spec := "fracFloors", inPlace := ["math/bits.Sub64", "math/bits.Add64"], named := ["math/bits.divideError", "math/bits.overflowError"], apart := false, narrowed := true }
def FracFloorsUptoSaid : Prop := fracFloorsUptoRow.holds Try.pinned (OpenSpec.upto fracFloorsSpec)

/-- 'cobweblaw02.FracSnaps', WHERE WHAT IT READS IS OF BULK AT MOST 1048576: true; the input reads as it did. -/
def fracSnapsUptoRow : OpenClaim := { program := "ytdmjccbpghilcaa", sum := "f7b5e65f9fdb3d3751adac89d099fea7169647e6184d63d891fb9c3f16d43e27", func := "cobweb/cobweblaw02.FracSnaps", spec := "fracSnaps", inPlace := ["math/bits.Sub64", "math/bits.Add64"], named := ["math/bits.divideError", "math/bits.overflowError"], apart := false, narrowed := true }
def FracSnapsUptoSaid : Prop := fracSnapsUptoRow.holds Try.pinned (OpenSpec.upto fracSnapsSpec)

/-- 'cobweblaw02.FracRises', WHERE WHAT IT READS IS OF BULK AT MOST 1048576: true; the input reads as it did. -/
def fracRisesUptoRow : OpenClaim := { program := "ytdmjccbpghilcaa", sum := "f7b5e65f9fdb3d3751adac89d099fea7169647e6184d63d891fb9c3f16d43e27", func := "cobweb/cobweblaw02.FracRises", spec := "fracRises", inPlace := ["math/bits.Sub64", "math/bits.Add64"], named := ["math/bits.divideError", "math/bits.overflowError"], apart := false, narrowed := true }
def FracRisesUptoSaid : Prop := fracRisesUptoRow.holds Try.pinned (OpenSpec.upto fracRisesSpec)

/-- 'cobweblaw02.FracScales', WHERE WHAT IT READS IS OF BULK AT MOST 1048576: true; the input reads as it did. -/
def fracScalesUptoRow : OpenClaim := { program := "ytdmjccbpghilcaa", sum := "f7b5e65f9fdb3d3751adac89d099fea7169647e6184d63d891fb9c3f16d43e27", func := "cobweb/cobweblaw02.FracScales", spec := "fracScales", inPlace := ["math/bits.Sub64", "math/bits.Add64"], named := ["math/bits.divideError", "math/bits.overflowError"], apart := false, narrowed := true }
def FracScalesUptoSaid : Prop := fracScalesUptoRow.holds Try.pinned (OpenSpec.upto fracScalesSpec)

/-- 'cobweblaw02.FracTurned', WHERE WHAT IT READS IS OF BULK AT MOST 1048576: true; the input reads as it did. -/
def fracTurnedUptoRow : OpenClaim := { program := "ytdmjccbpghilcaa", sum := "f7b5e65f9fdb3d3751adac89d099fea7169647e6184d63d891fb9c3f16d43e27", func := "cobweb/cobweblaw02.FracTurned", spec := "fracTurned", inPlace := ["math/bits.Sub64", "math/bits.Add64"], named := ["math/bits.divideError", "math/bits.overflowError"], apart := false, narrowed := true }
def FracTurnedUptoSaid : Prop := fracTurnedUptoRow.holds Try.pinned (OpenSpec.upto fracTurnedSpec)

end Rows
end Go.Proofs.Ytdmjccbpghilcaa
