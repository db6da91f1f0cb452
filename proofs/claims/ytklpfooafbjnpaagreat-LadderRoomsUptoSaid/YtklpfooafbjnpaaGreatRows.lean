/-
  No cell of these rows narrows 'for every input' (looked for: loops, veiled, ifaces, maps, wideKeys, modest, calm, conditions, laid).
  DERIVED. THE GIVEN ROWS OF THIS SEAT. 11 by the template 'for every input the law returns true; each argument reads behind the call as it read before'; 0 by the template 'total and deterministic' (their statements: YtklpfooafbjnpaaGreatTotals.lean).
  GIVEN WITH THE SEED: the statements are not yours to turn. If you find one false, say at which input.
  Laid BY PROGRAM, IN A SANDBOX (cutbox-rows.mjs): the forced cells as the released guide's own fill.sh prints them over the translation 288c530ab71f2952… (all of the seat's roots in one cut). By AI agents, Wed Nov 11 2026. No macro, syntax, notation, axiom, sorry.
-/
import Derived.Test.YtklpfooafbjnpaaGreatChecked
import GoSem.Claim
import GoSem.ClaimJoined
import GoSem.ClaimMapViews
import Derived.JoinedTies
import Derived.KernelRfl
namespace Go.Proofs.YtklpfooafbjnpaaGreat
/- THE CELL 'sum', in the pinned program and in every row, IS THE sha256 OF THE DUMP (.gsa) THAT YtklpfooafbjnpaaGreatProg.lean LOADS. Nothing in Lean hashes anything: it is a label: what it is worth is what the hold of that sum in a sandbox is worth. -/
noncomputable def Tryz.pinned : Pinned := { name := "ytklpfooafbjnpaagreat", sum := "288c530ab71f29528f9ffa1c9b7dad9a17b638b481d8feeefe17505ae927666a", checked := Tryz.checked }
namespace Rows
def none {H : Type} : Left H := { results := [], args := [] }

/-- 'cobweblaw12.RungAll': WHATEVER THE INPUT: true; the input reads as it did. -/
def rungAllSpec : ChangeSpec := { name := "rungAll", fn := fun _ => fun
  | [d1, d2, d3] => { results := [.lit (.bool true)], args := [d1, d2, d3] }
  | _ => none }
def rungAllRow : OpenClaim := { program := "ytklpfooafbjnpaagreat", sum := "288c530ab71f29528f9ffa1c9b7dad9a17b638b481d8feeefe17505ae927666a", func := "cobweb/cobweblaw12.RungAll", spec := "rungAll", inPlace := ["slices.overlaps[cobweb/near.Entry[int]]", "math/bits.Sub64", "math/bits.Add64"], unfollowed := true, recurses := true, named := ["math/bits.divideError", "math/bits.overflowError"], plainKeys := false, apart := false }
def RungAllSaid : Prop := rungAllRow.holds Tryz.pinned (OpenSpec.ofChange rungAllSpec)

/-- ITS FALSE NEIGHBOUR: 'it returns false'. Refute it at one input. -/
def rungAllWrong : ChangeSpec := { name := "rungAll", fn := fun _ => fun
  | [d1, d2, d3] => { results := [.lit (.bool false)], args := [d1, d2, d3] }
  | _ => none }
def RungAllWrongFalsely : Prop := rungAllRow.holds Tryz.pinned (OpenSpec.ofChange rungAllWrong)

/-- 'cobweblaw12.RungLoads': WHATEVER THE INPUT: true; the input reads as it did. -/
def rungLoadsSpec : ChangeSpec := { name := "rungLoads", fn := fun _ => fun
  | [d1, d2] => { results := [.lit (.bool true)], args := [d1, d2] }
  | _ => none }
def rungLoadsRow : OpenClaim := { program := "ytklpfooafbjnpaagreat", sum := "288c530ab71f29528f9ffa1c9b7dad9a17b638b481d8feeefe17505ae927666a", func := "cobweb/cobweblaw12.RungLoads", spec := "rungLoads", inPlace := ["slices.overlaps[cobweb/near.Entry[int]]", "math/bits.Sub64", "math/bits.Add64"], unfollowed := true, recurses := true, named := ["math/bits.divideError", "math/bits.overflowError"], plainKeys := false, apart := false }
def RungLoadsSaid : Prop := rungLoadsRow.holds Tryz.pinned (OpenSpec.ofChange rungLoadsSpec)

/-- ITS FALSE NEIGHBOUR: 'it returns false'. Refute it at one input. -/
def rungLoadsWrong : ChangeSpec := { name := "rungLoads", fn := fun _ => fun
  | [d1, d2] => { results := [.lit (.bool false)], args := [d1, d2] }
  | _ => none }
def RungLoadsWrongFalsely : Prop := rungLoadsRow.holds Tryz.pinned (OpenSpec.ofChange rungLoadsWrong)

/-- 'cobweblaw12.RungResumes': WHATEVER THE INPUT: true; the input reads as it did. -/
def rungResumesSpec : ChangeSpec := { name := "rungResumes", fn := fun _ => fun
  | [d1, d2, d3] => { results := [.lit (.bool true)], args := [d1, d2, d3] }
  | _ => none }
def rungResumesRow : OpenClaim := { program := "ytklpfooafbjnpaagreat", sum := "288c530ab71f29528f9ffa1c9b7dad9a17b638b481d8feeefe17505ae927666a", func := "cobweb/cobweblaw12.RungResumes", spec := "rungResumes", inPlace := ["slices.overlaps[cobweb/near.Entry[int]]", "math/bits.Sub64", "math/bits.Add64"], unfollowed := true, recurses := true, named := ["math/bits.divideError", "math/bits.overflowError"], plainKeys := false, apart := false }
def RungResumesSaid : Prop := rungResumesRow.holds Tryz.pinned (OpenSpec.ofChange rungResumesSpec)

/-- ITS FALSE NEIGHBOUR: 'it returns false'. Refute it at one input. -/
def rungResumesWrong : ChangeSpec := { name := "rungResumes", fn := fun _ => fun
  | [d1, d2, d3] => { results := [.lit (.bool false)], args := [d1, d2, d3] }
  | _ => none }
def RungResumesWrongFalsely : Prop := rungResumesRow.holds Tryz.pinned (OpenSpec.ofChange rungResumesWrong)

/-- 'cobweblaw12.RungMoved': WHATEVER THE INPUT: true; the input reads as it did. -/
def rungMovedSpec : ChangeSpec := { name := "rungMoved", fn := fun _ => fun
  | [d1, d2, d3] => { results := [.lit (.bool true)], args := [d1, d2, d3] }
  | _ => none }
def rungMovedRow : OpenClaim := { program := "ytklpfooafbjnpaagreat", sum := "288c530ab71f29528f9ffa1c9b7dad9a17b638b481d8feeefe17505ae927666a", func := "cobweb/cobweblaw12.RungMoved", spec := "rungMoved", inPlace := ["slices.overlaps[cobweb/near.Entry[int]]", "math/bits.Sub64", "math/bits.Add64"], unfollowed := true, recurses := true, named := ["math/bits.divideError", "math/bits.overflowError"], plainKeys := false, apart := false }
def RungMovedSaid : Prop := rungMovedRow.holds Tryz.pinned (OpenSpec.ofChange rungMovedSpec)

/-- ITS FALSE NEIGHBOUR: 'it returns false'. Refute it at one input. -/
def rungMovedWrong : ChangeSpec := { name := "rungMoved", fn := fun _ => fun
  | [d1, d2, d3] => { results := [.lit (.bool false)], args := [d1, d2, d3] }
  | _ => none }
def RungMovedWrongFalsely : Prop := rungMovedRow.holds Tryz.pinned (OpenSpec.ofChange rungMovedWrong)

/-- 'cobweblaw13.LadderAll': WHATEVER THE INPUT: true; the input reads as it did. -/
def ladderAllSpec : ChangeSpec := { name := "ladderAll", fn := fun _ => fun
  | [d1, d2] => { results := [.lit (.bool true)], args := [d1, d2] }
  | _ => none }
def ladderAllRow : OpenClaim := { program := "ytklpfooafbjnpaagreat", sum := "288c530ab71f29528f9ffa1c9b7dad9a17b638b481d8feeefe17505ae927666a", func := "cobweb/cobweblaw13.LadderAll", spec := "ladderAll", inPlace := ["slices.overlaps[cobweb/near.Entry[int]]", "math/bits.Sub64", "math/bits.Add64"], unfollowed := true, recurses := true, named := ["math/bits.divideError", "math/bits.overflowError"], plainKeys := false, apart := false }
def LadderAllSaid : Prop := ladderAllRow.holds Tryz.pinned (OpenSpec.ofChange ladderAllSpec)

/-- ITS FALSE NEIGHBOUR: 'it returns false'. Refute it at one input. -/
def ladderAllWrong : ChangeSpec := { name := "ladderAll", fn := fun _ => fun
  | [d1, d2] => { results := [.lit (.bool false)], args := [d1, d2] }
  | _ => none }
def LadderAllWrongFalsely : Prop := ladderAllRow.holds Tryz.pinned (OpenSpec.ofChange ladderAllWrong)

/-- 'cobweblaw13.LadderEnds': WHATEVER THE INPUT: true; the input reads as it did. -/
def ladderEndsSpec : ChangeSpec := { name := "ladderEnds", fn := fun _ => fun
  | [d] => { results := [.lit (.bool true)], args := [d] }
  | _ => none }
def ladderEndsRow : OpenClaim := { program := "ytklpfooafbjnpaagreat", sum := "288c530ab71f29528f9ffa1c9b7dad9a17b638b481d8feeefe17505ae927666a", func := "cobweb/cobweblaw13.LadderEnds", spec := "ladderEnds", inPlace := ["slices.overlaps[cobweb/near.Entry[int]]", "math/bits.Sub64", "math/bits.Add64"], unfollowed := true, recurses := true, named := ["math/bits.divideError", "math/bits.overflowError"], plainKeys := false, apart := false }
def LadderEndsSaid : Prop := ladderEndsRow.holds Tryz.pinned (OpenSpec.ofChange ladderEndsSpec)

/-- ITS FALSE NEIGHBOUR: 'it returns false'. Refute it at one input. -/
def ladderEndsWrong : ChangeSpec := { name := "ladderEnds", fn := fun _ => fun
  | [d] => { results := [.lit (.bool false)], args := [d] }
  | _ => none }
def LadderEndsWrongFalsely : Prop := ladderEndsRow.holds Tryz.pinned (OpenSpec.ofChange ladderEndsWrong)

/-- 'cobweblaw13.LadderParts': WHATEVER THE INPUT: true; the input reads as it did. -/
def ladderPartsSpec : ChangeSpec := { name := "ladderParts", fn := fun _ => fun
  | [d1, d2] => { results := [.lit (.bool true)], args := [d1, d2] }
  | _ => none }
def ladderPartsRow : OpenClaim := { program := "ytklpfooafbjnpaagreat", sum := "288c530ab71f29528f9ffa1c9b7dad9a17b638b481d8feeefe17505ae927666a", func := "cobweb/cobweblaw13.LadderParts", spec := "ladderParts", inPlace := ["slices.overlaps[cobweb/near.Entry[int]]", "math/bits.Sub64", "math/bits.Add64"], unfollowed := true, recurses := true, named := ["math/bits.divideError", "math/bits.overflowError"], plainKeys := false, apart := false }
def LadderPartsSaid : Prop := ladderPartsRow.holds Tryz.pinned (OpenSpec.ofChange ladderPartsSpec)

/-- ITS FALSE NEIGHBOUR: 'it returns false'. Refute it at one input. -/
def ladderPartsWrong : ChangeSpec := { name := "ladderParts", fn := fun _ => fun
  | [d1, d2] => { results := [.lit (.bool false)], args := [d1, d2] }
  | _ => none }
def LadderPartsWrongFalsely : Prop := ladderPartsRow.holds Tryz.pinned (OpenSpec.ofChange ladderPartsWrong)

/-- 'cobweblaw13.LadderLoads': WHATEVER THE INPUT: true; the input reads as it did. -/
def ladderLoadsSpec : ChangeSpec := { name := "ladderLoads", fn := fun _ => fun
  | [d1, d2, d3] => { results := [.lit (.bool true)], args := [d1, d2, d3] }
  | _ => none }
def ladderLoadsRow : OpenClaim := { program := "ytklpfooafbjnpaagreat", sum := "288c530ab71f29528f9ffa1c9b7dad9a17b638b481d8feeefe17505ae927666a", func := "cobweb/cobweblaw13.LadderLoads", spec := "ladderLoads", inPlace := ["slices.overlaps[cobweb/near.Entry[int]]", "math/bits.Sub64", "math/bits.Add64"], unfollowed := true, recurses := true, named := ["math/bits.divideError", "math/bits.overflowError"], plainKeys := false, apart := false }
def LadderLoadsSaid : Prop := ladderLoadsRow.holds Tryz.pinned (OpenSpec.ofChange ladderLoadsSpec)

/-- ITS FALSE NEIGHBOUR: 'it returns false'. Refute it at one input. -/
def ladderLoadsWrong : ChangeSpec := { name := "ladderLoads", fn := fun _ => fun
  | [d1, d2, d3] => { results := [.lit (.bool false)], args := [d1, d2, d3] }
  | _ => none }
def LadderLoadsWrongFalsely : Prop := ladderLoadsRow.holds Tryz.pinned (OpenSpec.ofChange ladderLoadsWrong)

/-- 'cobweblaw13.LadderResumes': WHATEVER THE INPUT: true; the input reads as it did. -/
def ladderResumesSpec : ChangeSpec := { name := "ladderResumes", fn := fun _ => fun
  | [d1, d2] => { results := [.lit (.bool true)], args := [d1, d2] }
  | _ => none }
def ladderResumesRow : OpenClaim := { program := "ytklpfooafbjnpaagreat", sum := "288c530ab71f29528f9ffa1c9b7dad9a17b638b481d8feeefe17505ae927666a", func := "cobweb/cobweblaw13.LadderResumes", spec := "ladderResumes", inPlace := ["slices.overlaps[cobweb/near.Entry[int]]", "math/bits.Sub64", "math/bits.Add64"], unfollowed := true, recurses := true, named := ["math/bits.divideError", "math/bits.overflowError"], plainKeys := false, apart := false }
def LadderResumesSaid : Prop := ladderResumesRow.holds Tryz.pinned (OpenSpec.ofChange ladderResumesSpec)

/-- ITS FALSE NEIGHBOUR: 'it returns false'. Refute it at one input. -/
def ladderResumesWrong : ChangeSpec := { name := "ladderResumes", fn := fun _ => fun
  | [d1, d2] => { results := [.lit (.bool false)], args := [d1, d2] }
  | _ => none }
def LadderResumesWrongFalsely : Prop := ladderResumesRow.holds Tryz.pinned (OpenSpec.ofChange ladderResumesWrong)

/-- 'cobweblaw13.LadderClimbs': WHATEVER THE INPUT: true; the input reads as it did. -/
def ladderClimbsSpec : ChangeSpec := { name := "ladderClimbs", fn := fun _ => fun
  | [d] => { results := [.lit (.bool true)], args := [d] }
  | _ => none }
def ladderClimbsRow : OpenClaim := { program := "ytklpfooafbjnpaagreat", sum := "288c530ab71f29528f9ffa1c9b7dad9a17b638b481d8feeefe17505ae927666a", func := "cobweb/cobweblaw13.LadderClimbs", spec := "ladderClimbs", inPlace := ["slices.overlaps[cobweb/near.Entry[int]]", "math/bits.Sub64", "math/bits.Add64"], unfollowed := true, recurses := true, named := ["math/bits.divideError", "math/bits.overflowError"], plainKeys := false, apart := false }
def LadderClimbsSaid : Prop := ladderClimbsRow.holds Tryz.pinned (OpenSpec.ofChange ladderClimbsSpec)

/-- ITS FALSE NEIGHBOUR: 'it returns false'. Refute it at one input. -/
def ladderClimbsWrong : ChangeSpec := { name := "ladderClimbs", fn := fun _ => fun
  | [d] => { results := [.lit (.bool false)], args := [d] }
  | _ => none }
def LadderClimbsWrongFalsely : Prop := ladderClimbsRow.holds Tryz.pinned (OpenSpec.ofChange ladderClimbsWrong)

/-- 'cobweblaw13.LadderRooms': WHATEVER THE INPUT: true; the input reads as it did. -/
def ladderRoomsSpec : ChangeSpec := { name := "ladderRooms", fn := fun _ => fun
  | [d1, d2] => { results := [.lit (.bool true)], args := [d1, d2] }
  | _ => none }
def ladderRoomsRow : OpenClaim := { program := "ytklpfooafbjnpaagreat", sum := "288c530ab71f29528f9ffa1c9b7dad9a17b638b481d8feeefe17505ae927666a", func := "cobweb/cobweblaw13.LadderRooms", spec := "ladderRooms", inPlace := ["slices.overlaps[cobweb/near.Entry[int]]", "math/bits.Sub64", "math/bits.Add64"], unfollowed := true, recurses := true, named := ["math/bits.divideError", "math/bits.overflowError"], plainKeys := false, apart := false }
def LadderRoomsSaid : Prop := ladderRoomsRow.holds Tryz.pinned (OpenSpec.ofChange ladderRoomsSpec)

/-- ITS FALSE NEIGHBOUR: 'it returns false'. Refute it at one input. -/
def ladderRoomsWrong : ChangeSpec := { name := "ladderRooms", fn := fun _ => fun
  | [d1, d2] => { results := [.lit (.bool false)], args := [d1, d2] }
  | _ => none }
def LadderRoomsWrongFalsely : Prop := ladderRoomsRow.holds Tryz.pinned (OpenSpec.ofChange ladderRoomsWrong)

/- THE SECOND FORM. 'bulk': how many values and letters a reading holds, each counted each time it is reached (what is shared counts as often as it is met; a slice's spare places count too). A statement '..UptoSaid' is the law's where the arguments, and the package variables that the reading takes, are together of bulk at most 1048576: NARROWER than '..Said'. Prove '..Said' where nothing that the law and all that it calls make is longer than what came in: it says more and counts as full. Else prove '..UptoSaid'. A law counts once. -/
mutual
def uptoBulk {H : Type} : DataW H → Nat
  | .lit (.string bytes) => bytes.length + 1
  | .lit _ => 1
  | .nil => 1
  | .ptr d => uptoBulk d + 1
  | .slice elems spare => uptoBulkAll elems + uptoBulkAll spare + 1
  | .agg parts => uptoBulkAll parts + 1
  | .iface _ d => uptoBulk d + 1
  | .map entries => uptoBulkEntries entries + 1
  | .held _ => 1
def uptoBulkAll {H : Type} : List (DataW H) → Nat
  | [] => 0
  | d :: r => uptoBulk d + uptoBulkAll r
def uptoBulkEntries {H : Type} : List (Lit × DataW H) → Nat
  | [] => 0
  | x :: r => uptoBulkEntry x + uptoBulkEntries r
def uptoBulkEntry {H : Type} : Lit × DataW H → Nat
  | (.string bytes, d) => bytes.length + uptoBulk d + 1
  | (_, d) => uptoBulk d + 1
 end
def uptoSmall : (H : Type) → List (DataW H) → Bool := fun _ ds => decide (uptoBulkAll ds ≤ 1048576)
def OpenSpec.upto (s : _root_.Go.ChangeSpec) : _root_.Go.OpenSpec := { _root_.Go.OpenSpec.ofChange s with cond := some uptoSmall }

/-- 'cobweblaw12.RungAll', WHERE WHAT IT READS IS OF BULK AT MOST 1048576: true; the input reads as it did. -/
def rungAllUptoRow : OpenClaim := { program := "ytklpfooafbjnpaagreat", sum := "288c530ab71f29528f9ffa1c9b7dad9a17b638b481d8feeefe17505ae927666a", func := "cobweb/cobweblaw12.RungAll", spec := "rungAll", inPlace := ["slices.overlaps[cobweb/near.Entry[int]]", "math/bits.Sub64", "math/bits.Add64"], unfollowed := true, recurses := true, named := ["math/bits.divideError", "math/bits.overflowError"], plainKeys := false, apart := false, narrowed := true }
def RungAllUptoSaid : Prop := rungAllUptoRow.holds Tryz.pinned (OpenSpec.upto rungAllSpec)

/-- 'cobweblaw12.RungLoads', WHERE WHAT IT READS IS OF BULK AT MOST 1048576: true; the input reads as it did. -/
def rungLoadsUptoRow : OpenClaim := { program := "ytklpfooafbjnpaagreat", sum := "288c530ab71f29528f9ffa1c9b7dad9a17b638b481d8feeefe17505ae927666a", func := "cobweb/cobweblaw12.RungLoads", spec := "rungLoads", inPlace := ["slices.overlaps[cobweb/near.Entry[int]]", "math/bits.Sub64", "math/bits.Add64"], unfollowed := true, recurses := true, named := ["math/bits.divideError", "math/bits.overflowError"], plainKeys := false, apart := false, narrowed := true }
def RungLoadsUptoSaid : Prop := rungLoadsUptoRow.holds Tryz.pinned (OpenSpec.upto rungLoadsSpec)

/-- 'cobweblaw12.RungResumes', WHERE WHAT IT READS IS OF BULK AT MOST 1048576: true; the input reads as it did. -/
def rungResumesUptoRow : OpenClaim := { program := "ytklpfooafbjnpaagreat", sum := "288c530ab71f29528f9ffa1c9b7dad9a17b638b481d8feeefe17505ae927666a", func := "cobweb/cobweblaw12.RungResumes", spec := "rungResumes", inPlace := ["slices.overlaps[cobweb/near.Entry[int]]", "math/bits.Sub64", "math/bits.Add64"], unfollowed := true, recurses := true, named := ["math/bits.divideError", "math/bits.overflowError"], plainKeys := false, apart := false, narrowed := true }
def RungResumesUptoSaid : Prop := rungResumesUptoRow.holds Tryz.pinned (OpenSpec.upto rungResumesSpec)

/-- 'cobweblaw12.RungMoved', WHERE WHAT IT READS IS OF BULK AT MOST 1048576: true; the input reads as it did. -/
def rungMovedUptoRow : OpenClaim := { program := "ytklpfooafbjnpaagreat", sum := "288c530ab71f29528f9ffa1c9b7dad9a17b638b481d8feeefe17505ae927666a", func := "cobweb/cobweblaw12.RungMoved", spec := "rungMoved", inPlace := ["slices.overlaps[cobweb/near.Entry[int]]", "math/bits.Sub64", "math/bits.Add64"], unfollowed := true, recurses := true, named := ["math/bits.divideError", "math/bits.overflowError"], plainKeys := false, apart := false, narrowed := true }
def RungMovedUptoSaid : Prop := rungMovedUptoRow.holds Tryz.pinned (OpenSpec.upto rungMovedSpec)

/-- 'cobweblaw13.LadderAll', WHERE WHAT IT READS IS OF BULK AT MOST 1048576: true; the input reads as it did. -/
def ladderAllUptoRow : OpenClaim := { program := "ytklpfooafbjnpaagreat", sum := "288c530ab71f29528f9ffa1c9b7dad9a17b638b481d8feeefe17505ae927666a", func := "cobweb/cobweblaw13.LadderAll", spec := "ladderAll", inPlace := ["slices.overlaps[cobweb/near.Entry[int]]", "math/bits.Sub64", "math/bits.Add64"], unfollowed := true, recurses := true, named := ["math/bits.divideError", "math/bits.overflowError"], plainKeys := false, apart := false, narrowed := true }
def LadderAllUptoSaid : Prop := ladderAllUptoRow.holds Tryz.pinned (OpenSpec.upto ladderAllSpec)

/-- 'cobweblaw13.LadderEnds', WHERE WHAT IT READS IS OF BULK AT MOST 1048576: true; the input reads as it did. -/
def ladderEndsUptoRow : OpenClaim := { program := "ytklpfooafbjnpaagreat", sum := "288c530ab71f29528f9ffa1c9b7dad9a17b638b481d8feeefe17505ae927666a", func := "cobweb/cobweblaw13.LadderEnds", spec := "ladderEnds", inPlace := ["slices.overlaps[cobweb/near.Entry[int]]", "math/bits.Sub64", "math/bits.Add64"], unfollowed := true, recurses := true, named := ["math/bits.divideError", "math/bits.overflowError"], plainKeys := false, apart := false, narrowed := true }
def LadderEndsUptoSaid : Prop := ladderEndsUptoRow.holds Tryz.pinned (OpenSpec.upto ladderEndsSpec)

/-- 'cobweblaw13.LadderParts', WHERE WHAT IT READS IS OF BULK AT MOST 1048576: true; the input reads as it did. -/
def ladderPartsUptoRow : OpenClaim := { program := "ytklpfooafbjnpaagreat", sum := "288c530ab71f29528f9ffa1c9b7dad9a17b638b481d8feeefe17505ae927666a", func := "cobweb/cobweblaw13.LadderParts", spec := "ladderParts", inPlace := ["slices.overlaps[cobweb/near.Entry[int]]", "math/bits.Sub64", "math/bits.Add64"], unfollowed := true, recurses := true, named := ["math/bits.divideError", "math/bits.overflowError"], plainKeys := false, apart := false, narrowed := true }
def LadderPartsUptoSaid : Prop := ladderPartsUptoRow.holds Tryz.pinned (OpenSpec.upto ladderPartsSpec)

/-- 'cobweblaw13.LadderLoads', WHERE WHAT IT READS IS OF BULK AT MOST 1048576: true; the input reads as it did. -/
def ladderLoadsUptoRow : OpenClaim := { program := "ytklpfooafbjnpaagreat", sum := "288c530ab71f29528f9ffa1c9b7dad9a17b638b481d8feeefe17505ae927666a", func := "cobweb/cobweblaw13.LadderLoads", spec := "ladderLoads", inPlace := ["slices.overlaps[cobweb/near.Entry[int]]", "math/bits.Sub64", "math/bits.Add64"], unfollowed := true, recurses := true, named := ["math/bits.divideError", "math/bits.overflowError"], plainKeys := false, apart := false, narrowed := true }
def LadderLoadsUptoSaid : Prop := ladderLoadsUptoRow.holds Tryz.pinned (OpenSpec.upto ladderLoadsSpec)

/-- 'cobweblaw13.LadderResumes', WHERE WHAT IT READS IS OF BULK AT MOST 1048576: true; the input reads as it did. -/
def ladderResumesUptoRow : OpenClaim := { program := "ytklpfooafbjnpaagreat", sum := "288c530ab71f29528f9ffa1c9b7dad9a17b638b481d8feeefe17505ae927666a", func := "cobweb/cobweblaw13.LadderResumes", spec := "ladderResumes", inPlace := ["slices.overlaps[cobweb/near.Entry[int]]", "math/bits.Sub64", "math/bits.Add64"], unfollowed := true, recurses := true, named := ["math/bits.divideError", "math/bits.overflowError"], plainKeys := false, apart := false, narrowed := true }
def LadderResumesUptoSaid : Prop := ladderResumesUptoRow.holds Tryz.pinned (OpenSpec.upto ladderResumesSpec)

/-- 'cobweblaw13.LadderClimbs', WHERE WHAT IT READS IS OF BULK AT MOST 1048576: true; the input reads as it did. -/
def ladderClimbsUptoRow : OpenClaim := { program := "ytklpfooafbjnpaagreat", sum := "288c530ab71f29528f9ffa1c9b7dad9a17b638b481d8feeefe17505ae927666a", func := "cobweb/cobweblaw13.LadderClimbs", spec := "ladderClimbs", inPlace := ["slices.overlaps[cobweb/near.Entry[int]]", "math/bits.Sub64", "math/bits.Add64"], unfollowed := true, recurses := true, named := ["math/bits.divideError", "math/bits.overflowError"], plainKeys := false, apart := false, narrowed := true }
def LadderClimbsUptoSaid : Prop := ladderClimbsUptoRow.holds Tryz.pinned (OpenSpec.upto ladderClimbsSpec)

/-- 'cobweblaw13.LadderRooms', WHERE WHAT IT READS IS OF BULK AT MOST 1048576: true; the input reads as it did. -/
def ladderRoomsUptoRow : OpenClaim := { program := "ytklpfooafbjnpaagreat", sum := "288c530ab71f29528f9ffa1c9b7dad9a17b638b481d8feeefe17505ae927666a", func := "cobweb/cobweblaw13.LadderRooms", spec := "ladderRooms", inPlace := ["slices.overlaps[cobweb/near.Entry[int]]", "math/bits.Sub64", "math/bits.Add64"], unfollowed := true, recurses := true, named := ["math/bits.divideError", "math/bits.overflowError"], plainKeys := false, apart := false, narrowed := true }
def LadderRoomsUptoSaid : Prop := ladderRoomsUptoRow.holds Tryz.pinned (OpenSpec.upto ladderRoomsSpec)

end Rows
end Go.Proofs.YtklpfooafbjnpaaGreat
