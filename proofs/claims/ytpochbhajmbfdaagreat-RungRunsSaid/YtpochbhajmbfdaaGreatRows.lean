/-
  No cell of these rows narrows 'for every input' (looked for: loops, veiled, ifaces, maps, wideKeys, modest, calm, conditions, laid).
  DERIVED. THE GIVEN ROWS OF THIS SEAT. 12 by the template 'for every input the law returns true; each argument reads behind the call as it read before'; 0 by the template 'total and deterministic' (their statements: YtpochbhajmbfdaaGreatTotals.lean).
  GIVEN WITH THE SEED: the statements are not yours to turn. If you find one false, say at which input.
  Laid BY PROGRAM, IN A SANDBOX (cutbox-rows.mjs): the forced cells as the released guide's own fill.sh prints them over the translation 0a85f7a5fd63762a… (all of the seat's roots in one cut). By AI agents, Wed Nov 11 2026. No macro, syntax, notation, axiom, sorry.
-/
import Derived.Test.YtpochbhajmbfdaaGreatChecked
import GoSem.Claim
import GoSem.ClaimJoined
import GoSem.ClaimMapViews
import Derived.JoinedTies
import Derived.KernelRfl
namespace Go.Proofs.YtpochbhajmbfdaaGreat
/- THE CELL 'sum', in the pinned program and in every row, IS THE sha256 OF THE DUMP (.gsa) THAT YtpochbhajmbfdaaGreatProg.lean LOADS. Nothing in Lean hashes anything: it is a label: what it is worth is what the hold of that sum in a sandbox is worth. -/
noncomputable def Tryz.pinned : Pinned := { name := "ytpochbhajmbfdaagreat", sum := "0a85f7a5fd63762ada7f934b5eb9da3d46a8963195b52192f899064c1cd68c47", checked := Tryz.checked }
namespace Rows
def none {H : Type} : Left H := { results := [], args := [] }

/-- 'cobweblaw12.RungAll': WHATEVER THE INPUT: true; the input reads as it did. -/
def rungAllSpec : ChangeSpec := { name := "rungAll", fn := fun _ => fun
  | [d1, d2, d3] => { results := [.lit (.bool true)], args := [d1, d2, d3] }
  | _ => none }
def rungAllRow : OpenClaim := { program := "ytpochbhajmbfdaagreat", sum := "0a85f7a5fd63762ada7f934b5eb9da3d46a8963195b52192f899064c1cd68c47", func := "cobweb/cobweblaw12.RungAll", spec := "rungAll", inPlace := ["slices.overlaps[cobweb/near.Entry[int]]", "math/bits.Sub64", "math/bits.Add64"], unfollowed := true, recurses := true, named := ["math/bits.divideError", "math/bits.overflowError"], plainKeys := false, apart := false }
def RungAllSaid : Prop := rungAllRow.holds Tryz.pinned (OpenSpec.ofChange rungAllSpec)

/-- ITS FALSE NEIGHBOUR: 'it returns false'. Refute it at one input. -/
def rungAllWrong : ChangeSpec := { name := "rungAll", fn := fun _ => fun
  | [d1, d2, d3] => { results := [.lit (.bool false)], args := [d1, d2, d3] }
  | _ => none }
def RungAllWrongFalsely : Prop := rungAllRow.holds Tryz.pinned (OpenSpec.ofChange rungAllWrong)

/-- 'cobweblaw12.RungEnds': WHATEVER THE INPUT: true; the input reads as it did. -/
def rungEndsSpec : ChangeSpec := { name := "rungEnds", fn := fun _ => fun
  | [d1, d2, d3] => { results := [.lit (.bool true)], args := [d1, d2, d3] }
  | _ => none }
def rungEndsRow : OpenClaim := { program := "ytpochbhajmbfdaagreat", sum := "0a85f7a5fd63762ada7f934b5eb9da3d46a8963195b52192f899064c1cd68c47", func := "cobweb/cobweblaw12.RungEnds", spec := "rungEnds", inPlace := ["slices.overlaps[cobweb/near.Entry[int]]", "math/bits.Sub64", "math/bits.Add64"], unfollowed := true, recurses := true, named := ["math/bits.divideError", "math/bits.overflowError"], plainKeys := false, apart := false }
def RungEndsSaid : Prop := rungEndsRow.holds Tryz.pinned (OpenSpec.ofChange rungEndsSpec)

/-- ITS FALSE NEIGHBOUR: 'it returns false'. Refute it at one input. -/
def rungEndsWrong : ChangeSpec := { name := "rungEnds", fn := fun _ => fun
  | [d1, d2, d3] => { results := [.lit (.bool false)], args := [d1, d2, d3] }
  | _ => none }
def RungEndsWrongFalsely : Prop := rungEndsRow.holds Tryz.pinned (OpenSpec.ofChange rungEndsWrong)

/-- 'cobweblaw12.RungChains': WHATEVER THE INPUT: true; the input reads as it did. -/
def rungChainsSpec : ChangeSpec := { name := "rungChains", fn := fun _ => fun
  | [d1, d2, d3] => { results := [.lit (.bool true)], args := [d1, d2, d3] }
  | _ => none }
def rungChainsRow : OpenClaim := { program := "ytpochbhajmbfdaagreat", sum := "0a85f7a5fd63762ada7f934b5eb9da3d46a8963195b52192f899064c1cd68c47", func := "cobweb/cobweblaw12.RungChains", spec := "rungChains", inPlace := ["slices.overlaps[cobweb/near.Entry[int]]", "math/bits.Sub64", "math/bits.Add64"], unfollowed := true, recurses := true, named := ["math/bits.divideError", "math/bits.overflowError"], plainKeys := false, apart := false }
def RungChainsSaid : Prop := rungChainsRow.holds Tryz.pinned (OpenSpec.ofChange rungChainsSpec)

/-- ITS FALSE NEIGHBOUR: 'it returns false'. Refute it at one input. -/
def rungChainsWrong : ChangeSpec := { name := "rungChains", fn := fun _ => fun
  | [d1, d2, d3] => { results := [.lit (.bool false)], args := [d1, d2, d3] }
  | _ => none }
def RungChainsWrongFalsely : Prop := rungChainsRow.holds Tryz.pinned (OpenSpec.ofChange rungChainsWrong)

/-- 'cobweblaw12.RungApart': WHATEVER THE INPUT: true; the input reads as it did. -/
def rungApartSpec : ChangeSpec := { name := "rungApart", fn := fun _ => fun
  | [d1, d2, d3] => { results := [.lit (.bool true)], args := [d1, d2, d3] }
  | _ => none }
def rungApartRow : OpenClaim := { program := "ytpochbhajmbfdaagreat", sum := "0a85f7a5fd63762ada7f934b5eb9da3d46a8963195b52192f899064c1cd68c47", func := "cobweb/cobweblaw12.RungApart", spec := "rungApart", inPlace := ["slices.overlaps[cobweb/near.Entry[int]]", "math/bits.Sub64", "math/bits.Add64"], unfollowed := true, recurses := true, named := ["math/bits.divideError", "math/bits.overflowError"], plainKeys := false, apart := false }
def RungApartSaid : Prop := rungApartRow.holds Tryz.pinned (OpenSpec.ofChange rungApartSpec)

/-- ITS FALSE NEIGHBOUR: 'it returns false'. Refute it at one input. -/
def rungApartWrong : ChangeSpec := { name := "rungApart", fn := fun _ => fun
  | [d1, d2, d3] => { results := [.lit (.bool false)], args := [d1, d2, d3] }
  | _ => none }
def RungApartWrongFalsely : Prop := rungApartRow.holds Tryz.pinned (OpenSpec.ofChange rungApartWrong)

/-- 'cobweblaw12.RungNoded': WHATEVER THE INPUT: true; the input reads as it did. -/
def rungNodedSpec : ChangeSpec := { name := "rungNoded", fn := fun _ => fun
  | [d1, d2, d3] => { results := [.lit (.bool true)], args := [d1, d2, d3] }
  | _ => none }
def rungNodedRow : OpenClaim := { program := "ytpochbhajmbfdaagreat", sum := "0a85f7a5fd63762ada7f934b5eb9da3d46a8963195b52192f899064c1cd68c47", func := "cobweb/cobweblaw12.RungNoded", spec := "rungNoded", inPlace := ["slices.overlaps[cobweb/near.Entry[int]]", "math/bits.Sub64", "math/bits.Add64"], unfollowed := true, recurses := true, named := ["math/bits.divideError", "math/bits.overflowError"], plainKeys := false, apart := false }
def RungNodedSaid : Prop := rungNodedRow.holds Tryz.pinned (OpenSpec.ofChange rungNodedSpec)

/-- ITS FALSE NEIGHBOUR: 'it returns false'. Refute it at one input. -/
def rungNodedWrong : ChangeSpec := { name := "rungNoded", fn := fun _ => fun
  | [d1, d2, d3] => { results := [.lit (.bool false)], args := [d1, d2, d3] }
  | _ => none }
def RungNodedWrongFalsely : Prop := rungNodedRow.holds Tryz.pinned (OpenSpec.ofChange rungNodedWrong)

/-- 'cobweblaw12.RungRuns': WHATEVER THE INPUT: true; the input reads as it did. -/
def rungRunsSpec : ChangeSpec := { name := "rungRuns", fn := fun _ => fun
  | [d1, d2, d3] => { results := [.lit (.bool true)], args := [d1, d2, d3] }
  | _ => none }
def rungRunsRow : OpenClaim := { program := "ytpochbhajmbfdaagreat", sum := "0a85f7a5fd63762ada7f934b5eb9da3d46a8963195b52192f899064c1cd68c47", func := "cobweb/cobweblaw12.RungRuns", spec := "rungRuns", inPlace := ["slices.overlaps[cobweb/near.Entry[int]]", "math/bits.Sub64", "math/bits.Add64"], unfollowed := true, recurses := true, named := ["math/bits.divideError", "math/bits.overflowError"], plainKeys := false, apart := false }
def RungRunsSaid : Prop := rungRunsRow.holds Tryz.pinned (OpenSpec.ofChange rungRunsSpec)

/-- ITS FALSE NEIGHBOUR: 'it returns false'. Refute it at one input. -/
def rungRunsWrong : ChangeSpec := { name := "rungRuns", fn := fun _ => fun
  | [d1, d2, d3] => { results := [.lit (.bool false)], args := [d1, d2, d3] }
  | _ => none }
def RungRunsWrongFalsely : Prop := rungRunsRow.holds Tryz.pinned (OpenSpec.ofChange rungRunsWrong)

/-- 'cobweblaw12.RungLast': WHATEVER THE INPUT: true; the input reads as it did. -/
def rungLastSpec : ChangeSpec := { name := "rungLast", fn := fun _ => fun
  | [d1, d2] => { results := [.lit (.bool true)], args := [d1, d2] }
  | _ => none }
def rungLastRow : OpenClaim := { program := "ytpochbhajmbfdaagreat", sum := "0a85f7a5fd63762ada7f934b5eb9da3d46a8963195b52192f899064c1cd68c47", func := "cobweb/cobweblaw12.RungLast", spec := "rungLast", inPlace := ["slices.overlaps[cobweb/near.Entry[int]]", "math/bits.Sub64", "math/bits.Add64"], unfollowed := true, recurses := true, named := ["math/bits.divideError", "math/bits.overflowError"], plainKeys := false, apart := false }
def RungLastSaid : Prop := rungLastRow.holds Tryz.pinned (OpenSpec.ofChange rungLastSpec)

/-- ITS FALSE NEIGHBOUR: 'it returns false'. Refute it at one input. -/
def rungLastWrong : ChangeSpec := { name := "rungLast", fn := fun _ => fun
  | [d1, d2] => { results := [.lit (.bool false)], args := [d1, d2] }
  | _ => none }
def RungLastWrongFalsely : Prop := rungLastRow.holds Tryz.pinned (OpenSpec.ofChange rungLastWrong)

/-- 'cobweblaw12.RungKeeps': WHATEVER THE INPUT: true; the input reads as it did. -/
def rungKeepsSpec : ChangeSpec := { name := "rungKeeps", fn := fun _ => fun
  | [d1, d2] => { results := [.lit (.bool true)], args := [d1, d2] }
  | _ => none }
def rungKeepsRow : OpenClaim := { program := "ytpochbhajmbfdaagreat", sum := "0a85f7a5fd63762ada7f934b5eb9da3d46a8963195b52192f899064c1cd68c47", func := "cobweb/cobweblaw12.RungKeeps", spec := "rungKeeps", inPlace := ["slices.overlaps[cobweb/near.Entry[int]]", "math/bits.Sub64", "math/bits.Add64"], unfollowed := true, recurses := true, named := ["math/bits.divideError", "math/bits.overflowError"], plainKeys := false, apart := false }
def RungKeepsSaid : Prop := rungKeepsRow.holds Tryz.pinned (OpenSpec.ofChange rungKeepsSpec)

/-- ITS FALSE NEIGHBOUR: 'it returns false'. Refute it at one input. -/
def rungKeepsWrong : ChangeSpec := { name := "rungKeeps", fn := fun _ => fun
  | [d1, d2] => { results := [.lit (.bool false)], args := [d1, d2] }
  | _ => none }
def RungKeepsWrongFalsely : Prop := rungKeepsRow.holds Tryz.pinned (OpenSpec.ofChange rungKeepsWrong)

/-- 'cobweblaw12.RungLoads': WHATEVER THE INPUT: true; the input reads as it did. -/
def rungLoadsSpec : ChangeSpec := { name := "rungLoads", fn := fun _ => fun
  | [d1, d2] => { results := [.lit (.bool true)], args := [d1, d2] }
  | _ => none }
def rungLoadsRow : OpenClaim := { program := "ytpochbhajmbfdaagreat", sum := "0a85f7a5fd63762ada7f934b5eb9da3d46a8963195b52192f899064c1cd68c47", func := "cobweb/cobweblaw12.RungLoads", spec := "rungLoads", inPlace := ["slices.overlaps[cobweb/near.Entry[int]]", "math/bits.Sub64", "math/bits.Add64"], unfollowed := true, recurses := true, named := ["math/bits.divideError", "math/bits.overflowError"], plainKeys := false, apart := false }
def RungLoadsSaid : Prop := rungLoadsRow.holds Tryz.pinned (OpenSpec.ofChange rungLoadsSpec)

/-- ITS FALSE NEIGHBOUR: 'it returns false'. Refute it at one input. -/
def rungLoadsWrong : ChangeSpec := { name := "rungLoads", fn := fun _ => fun
  | [d1, d2] => { results := [.lit (.bool false)], args := [d1, d2] }
  | _ => none }
def RungLoadsWrongFalsely : Prop := rungLoadsRow.holds Tryz.pinned (OpenSpec.ofChange rungLoadsWrong)

/-- 'cobweblaw12.RungResumes': WHATEVER THE INPUT: true; the input reads as it did. -/
def rungResumesSpec : ChangeSpec := { name := "rungResumes", fn := fun _ => fun
  | [d1, d2, d3] => { results := [.lit (.bool true)], args := [d1, d2, d3] }
  | _ => none }
def rungResumesRow : OpenClaim := { program := "ytpochbhajmbfdaagreat", sum := "0a85f7a5fd63762ada7f934b5eb9da3d46a8963195b52192f899064c1cd68c47", func := "cobweb/cobweblaw12.RungResumes", spec := "rungResumes", inPlace := ["slices.overlaps[cobweb/near.Entry[int]]", "math/bits.Sub64", "math/bits.Add64"], unfollowed := true, recurses := true, named := ["math/bits.divideError", "math/bits.overflowError"], plainKeys := false, apart := false }
def RungResumesSaid : Prop := rungResumesRow.holds Tryz.pinned (OpenSpec.ofChange rungResumesSpec)

/-- ITS FALSE NEIGHBOUR: 'it returns false'. Refute it at one input. -/
def rungResumesWrong : ChangeSpec := { name := "rungResumes", fn := fun _ => fun
  | [d1, d2, d3] => { results := [.lit (.bool false)], args := [d1, d2, d3] }
  | _ => none }
def RungResumesWrongFalsely : Prop := rungResumesRow.holds Tryz.pinned (OpenSpec.ofChange rungResumesWrong)

/-- 'cobweblaw12.RungTurned': WHATEVER THE INPUT: true; the input reads as it did. -/
def rungTurnedSpec : ChangeSpec := { name := "rungTurned", fn := fun _ => fun
  | [d1, d2, d3] => { results := [.lit (.bool true)], args := [d1, d2, d3] }
  | _ => none }
def rungTurnedRow : OpenClaim := { program := "ytpochbhajmbfdaagreat", sum := "0a85f7a5fd63762ada7f934b5eb9da3d46a8963195b52192f899064c1cd68c47", func := "cobweb/cobweblaw12.RungTurned", spec := "rungTurned", inPlace := ["slices.overlaps[cobweb/near.Entry[int]]", "math/bits.Sub64", "math/bits.Add64"], unfollowed := true, recurses := true, named := ["math/bits.divideError", "math/bits.overflowError"], plainKeys := false, apart := false }
def RungTurnedSaid : Prop := rungTurnedRow.holds Tryz.pinned (OpenSpec.ofChange rungTurnedSpec)

/-- ITS FALSE NEIGHBOUR: 'it returns false'. Refute it at one input. -/
def rungTurnedWrong : ChangeSpec := { name := "rungTurned", fn := fun _ => fun
  | [d1, d2, d3] => { results := [.lit (.bool false)], args := [d1, d2, d3] }
  | _ => none }
def RungTurnedWrongFalsely : Prop := rungTurnedRow.holds Tryz.pinned (OpenSpec.ofChange rungTurnedWrong)

/-- 'cobweblaw12.RungMoved': WHATEVER THE INPUT: true; the input reads as it did. -/
def rungMovedSpec : ChangeSpec := { name := "rungMoved", fn := fun _ => fun
  | [d1, d2, d3] => { results := [.lit (.bool true)], args := [d1, d2, d3] }
  | _ => none }
def rungMovedRow : OpenClaim := { program := "ytpochbhajmbfdaagreat", sum := "0a85f7a5fd63762ada7f934b5eb9da3d46a8963195b52192f899064c1cd68c47", func := "cobweb/cobweblaw12.RungMoved", spec := "rungMoved", inPlace := ["slices.overlaps[cobweb/near.Entry[int]]", "math/bits.Sub64", "math/bits.Add64"], unfollowed := true, recurses := true, named := ["math/bits.divideError", "math/bits.overflowError"], plainKeys := false, apart := false }
def RungMovedSaid : Prop := rungMovedRow.holds Tryz.pinned (OpenSpec.ofChange rungMovedSpec)

/-- ITS FALSE NEIGHBOUR: 'it returns false'. Refute it at one input. -/
def rungMovedWrong : ChangeSpec := { name := "rungMoved", fn := fun _ => fun
  | [d1, d2, d3] => { results := [.lit (.bool false)], args := [d1, d2, d3] }
  | _ => none }
def RungMovedWrongFalsely : Prop := rungMovedRow.holds Tryz.pinned (OpenSpec.ofChange rungMovedWrong)

/- THE SECOND FORM. 'bulk': how many values and letters a reading holds, each counted each time it is reached (what is shared counts as often as it is met; a slice's spare places count too). A statement '..UptoSaid' is the law's where the arguments, and the package variables that the reading takes, are together of bulk at most 1048576: NARROWER than '..Said'. Prove '..Said' where nothing that the law and all that it calls make is longer than what came in: it says more and counts as full. Else prove '..UptoSaid'. A law counts once. -/
mutual
def uptoBulk {H : Type} : DataW H → Nat
  | .lit (.string bytes) => bytes.length + 1
  | .lit _ => 1
  | .nil => 1
  | .ptr d => uptoBulk d + 1
  | .slice elems spare => uptoBulkAll elems + uptoBulkAll spare + 1
  | .agg parts => uptoBulkAll parts + 1
  | .iface _ d => uptoBulk d + 1
  | .map entries => uptoBulkEntries entries + 1
  | .held _ => 1
def uptoBulkAll {H : Type} : List (DataW H) → Nat
  | [] => 0
  | d :: r => uptoBulk d + uptoBulkAll r
def uptoBulkEntries {H : Type} : List (Lit × DataW H) → Nat
  | [] => 0
  | x :: r => uptoBulkEntry x + uptoBulkEntries r
def uptoBulkEntry {H : Type} : Lit × DataW H → Nat
  | (.string bytes, d) => bytes.length + uptoBulk d + 1
  | (_, d) => uptoBulk d + 1
 end
def uptoSmall : (H : Type) → List (DataW H) → Bool := fun _ ds => decide (uptoBulkAll ds ≤ 1048576)
def OpenSpec.upto (s : _root_.Go.ChangeSpec) : _root_.Go.OpenSpec := { _root_.Go.OpenSpec.ofChange s with cond := some uptoSmall }

/-- 'cobweblaw12.RungAll', WHERE WHAT IT READS IS OF BULK AT MOST 1048576: true; the input reads as it did. -/
def rungAllUptoRow : OpenClaim := { program := "ytpochbhajmbfdaagreat", sum := "0a85f7a5fd63762ada7f934b5eb9da3d46a8963195b52192f899064c1cd68c47", func := "cobweb/cobweblaw12.RungAll", spec := "rungAll", inPlace := ["slices.overlaps[cobweb/near.Entry[int]]", "math/bits.Sub64", "math/bits.Add64"], unfollowed := true, recurses := true, named := ["math/bits.divideError", "math/bits.overflowError"], plainKeys := false, apart := false, narrowed := true }
def RungAllUptoSaid : Prop := rungAllUptoRow.holds Tryz.pinned (OpenSpec.upto rungAllSpec)

/-- 'cobweblaw12.RungEnds', WHERE WHAT IT READS IS OF BULK AT MOST 1048576: true; the input reads as it did. -/
def rungEndsUptoRow : OpenClaim := { program := "ytpochbhajmbfdaagreat", sum := "0a85f7a5fd63762ada7f934b5eb9da3d46a8963195b52192f899064c1cd68c47", func := "cobweb/cobweblaw12.RungEnds", spec := "rungEnds", inPlace := ["slices.overlaps[cobweb/near.Entry[int]]", "math/bits.Sub64", "math/bits.Add64"], unfollowed := true, recurses := true, named := ["math/bits.divideError", "math/bits.overflowError"], plainKeys := false, apart := false, narrowed := true }
def RungEndsUptoSaid : Prop := rungEndsUptoRow.holds Tryz.pinned (OpenSpec.upto rungEndsSpec)

/-- 'cobweblaw12.RungChains', WHERE WHAT IT READS IS OF BULK AT MOST 1048576: true; the input reads as it did. -/
def rungChainsUptoRow : OpenClaim := { program := "ytpochbhajmbfdaagreat", sum := "0a85f7a5fd63762ada7f934b5eb9da3d46a8963195b52192f899064c1cd68c47", func := "cobweb/cobweblaw12.RungChains", spec := "rungChains", inPlace := ["slices.overlaps[cobweb/near.Entry[int]]", "math/bits.Sub64", "math/bits.Add64"], unfollowed := true, recurses := true, named := ["math/bits.divideError", "math/bits.overflowError"], plainKeys := false, apart := false, narrowed := true }
def RungChainsUptoSaid : Prop := rungChainsUptoRow.holds Tryz.pinned (OpenSpec.upto rungChainsSpec)

/-- 'cobweblaw12.RungApart', WHERE WHAT IT READS IS OF BULK AT MOST 1048576: true; the input reads as it did. -/
def rungApartUptoRow : OpenClaim := { program := "ytpochbhajmbfdaagreat", sum := "0a85f7a5fd63762ada7f934b5eb9da3d46a8963195b52192f899064c1cd68c47", func := "cobweb/cobweblaw12.RungApart", spec := "rungApart", inPlace := ["slices.overlaps[cobweb/near.Entry[int]]", "math/bits.Sub64", "math/bits.Add64"], unfollowed := true, recurses := true, named := ["math/bits.divideError", "math/bits.overflowError"], plainKeys := false, apart := false, narrowed := true }
def RungApartUptoSaid : Prop := rungApartUptoRow.holds Tryz.pinned (OpenSpec.upto rungApartSpec)

/-- 'cobweblaw12.RungNoded', WHERE WHAT IT READS IS OF BULK AT MOST 1048576: true; the input reads as it did. -/
def rungNodedUptoRow : OpenClaim := { program := "ytpochbhajmbfdaagreat", sum := "0a85f7a5fd63762ada7f934b5eb9da3d46a8963195b52192f899064c1cd68c47", func := "cobweb/cobweblaw12.RungNoded", spec := "rungNoded", inPlace := ["slices.overlaps[cobweb/near.Entry[int]]", "math/bits.Sub64", "math/bits.Add64"], unfollowed := true, recurses := true, named := ["math/bits.divideError", "math/bits.overflowError"], plainKeys := false, apart := false, narrowed := true }
def RungNodedUptoSaid : Prop := rungNodedUptoRow.holds Tryz.pinned (OpenSpec.upto rungNodedSpec)

/-- 'cobweblaw12.RungRuns', WHERE WHAT IT READS IS OF BULK AT MOST 1048576: true; the input reads as it did. -/
def rungRunsUptoRow : OpenClaim := { program := "ytpochbhajmbfdaagreat", sum := "0a85f7a5fd63762ada7f934b5eb9da3d46a8963195b52192f899064c1cd68c47", func := "cobweb/cobweblaw12.RungRuns", spec := "rungRuns", inPlace := ["slices.overlaps[cobweb/near.Entry[int]]", "math/bits.Sub64", "math/bits.Add64"], unfollowed := true, recurses := true, named := ["math/bits.divideError", "math/bits.overflowError"], plainKeys := false, apart := false, narrowed := true }
def RungRunsUptoSaid : Prop := rungRunsUptoRow.holds Tryz.pinned (OpenSpec.upto rungRunsSpec)

/-- 'cobweblaw12.RungLast', WHERE WHAT IT READS IS OF BULK AT MOST 1048576: true; the input reads as it did. -/
def rungLastUptoRow : OpenClaim := { program := "ytpochbhajmbfdaagreat", sum := "0a85f7a5fd63762ada7f934b5eb9da3d46a8963195b52192f899064c1cd68c47", func := "cobweb/cobweblaw12.RungLast", spec := "rungLast", inPlace := ["slices.overlaps[cobweb/near.Entry[int]]", "math/bits.Sub64", "math/bits.Add64"], unfollowed := true, recurses := true, named := ["math/bits.divideError", "math/bits.overflowError"], plainKeys := false, apart := false, narrowed := true }
def RungLastUptoSaid : Prop := rungLastUptoRow.holds Tryz.pinned (OpenSpec.upto rungLastSpec)

/-- 'cobweblaw12.RungKeeps', WHERE WHAT IT READS IS OF BULK AT MOST 1048576: true; the input reads as it did. -/
def rungKeepsUptoRow : OpenClaim := { program := "ytpochbhajmbfdaagreat", sum := "0a85f7a5fd63762ada7f934b5eb9da3d46a8963195b52192f899064c1cd68c47", func := "cobweb/cobweblaw12.RungKeeps", spec := "rungKeeps", inPlace := ["slices.overlaps[cobweb/near.Entry[int]]", "math/bits.Sub64", "math/bits.Add64"], unfollowed := true, recurses := true, named := ["math/bits.divideError", "math/bits.overflowError"], plainKeys := false, apart := false, narrowed := true }
def RungKeepsUptoSaid : Prop := rungKeepsUptoRow.holds Tryz.pinned (OpenSpec.upto rungKeepsSpec)

/-- 'cobweblaw12.RungLoads', WHERE WHAT IT READS IS OF BULK AT MOST 1048576: true; the input reads as it did. -/
def rungLoadsUptoRow : OpenClaim := { program := "ytpochbhajmbfdaagreat", sum := "0a85f7a5fd63762ada7f934b5eb9da3d46a8963195b52192f899064c1cd68c47", func := "cobweb/cobweblaw12.RungLoads", spec := "rungLoads", inPlace := ["slices.overlaps[cobweb/near.Entry[int]]", "math/bits.Sub64", "math/bits.Add64"], unfollowed := true, recurses := true, named := ["math/bits.divideError", "math/bits.overflowError"], plainKeys := false, apart := false, narrowed := true }
def RungLoadsUptoSaid : Prop := rungLoadsUptoRow.holds Tryz.pinned (OpenSpec.upto rungLoadsSpec)

/-- 'cobweblaw12.RungResumes', WHERE WHAT IT READS IS OF BULK AT MOST 1048576: true; the input reads as it did. -/
def rungResumesUptoRow : OpenClaim := { program := "ytpochbhajmbfdaagreat", sum := "0a85f7a5fd63762ada7f934b5eb9da3d46a8963195b52192f899064c1cd68c47", func := "cobweb/cobweblaw12.RungResumes", spec := "rungResumes", inPlace := ["slices.overlaps[cobweb/near.Entry[int]]", "math/bits.Sub64", "math/bits.Add64"], unfollowed := true, recurses := true, named := ["math/bits.divideError", "math/bits.overflowError"], plainKeys := false, apart := false, narrowed := true }
def RungResumesUptoSaid : Prop := rungResumesUptoRow.holds Tryz.pinned (OpenSpec.upto rungResumesSpec)

/-- 'cobweblaw12.RungTurned', WHERE WHAT IT READS IS OF BULK AT MOST 1048576: true; the input reads as it did. -/
def rungTurnedUptoRow : OpenClaim := { program := "ytpochbhajmbfdaagreat", sum := "0a85f7a5fd63762ada7f934b5eb9da3d46a8963195b52192f899064c1cd68c47", func := "cobweb/cobweblaw12.RungTurned", spec := "rungTurned", inPlace := ["slices.overlaps[cobweb/near.Entry[int]]", "math/bits.Sub64", "math/bits.Add64"], unfollowed := true, recurses := true, named := ["math/bits.divideError", "math/bits.overflowError"], plainKeys := false, apart := false, narrowed := true }
def RungTurnedUptoSaid : Prop := rungTurnedUptoRow.holds Tryz.pinned (OpenSpec.upto rungTurnedSpec)

/-- 'cobweblaw12.RungMoved', WHERE WHAT IT READS IS OF BULK AT MOST 1048576: true; the input reads as it did. -/
def rungMovedUptoRow : OpenClaim := { program := "ytpochbhajmbfdaagreat", sum := "0a85f7a5fd63762ada7f934b5eb9da3d46a8963195b52192f899064c1cd68c47", func := "cobweb/cobweblaw12.RungMoved", spec := "rungMoved", inPlace := ["slices.overlaps[cobweb/near.Entry[int]]", "math/bits.Sub64", "math/bits.Add64"], unfollowed := true, recurses := true, named := ["math/bits.divideError", "math/bits.overflowError"], plainKeys := false, apart := false, narrowed := true }
def RungMovedUptoSaid : Prop := rungMovedUptoRow.holds Tryz.pinned (OpenSpec.upto rungMovedSpec)

end Rows
end Go.Proofs.YtpochbhajmbfdaaGreat
