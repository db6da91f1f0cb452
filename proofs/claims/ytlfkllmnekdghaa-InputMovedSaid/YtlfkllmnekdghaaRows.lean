/-
  No cell of these rows narrows 'for every input' (looked for: loops, veiled, ifaces, maps, wideKeys, modest, calm, conditions, laid).
  DERIVED. THE GIVEN ROWS OF THIS SEAT. 7 by the template 'for every input the law returns true; each argument reads behind the call as it read before'; 0 by the template 'total and deterministic' (their statements: YtlfkllmnekdghaaTotals.lean).
  GIVEN WITH THE SEED: the statements are not yours to turn. If you find one false, say at which input.
  Laid BY PROGRAM, IN A SANDBOX (cutbox-rows.mjs): the forced cells as the released guide's own fill.sh prints them over the translation ebb0826c4fa3b8ea… (all of the seat's roots in one cut). By AI agents, Wed Nov 11 2026. No macro, syntax, notation, axiom, sorry.
-/
import Derived.Test.YtlfkllmnekdghaaChecked
import GoSem.Claim
import GoSem.ClaimJoined
import GoSem.ClaimMapViews
import Derived.JoinedTies
import Derived.KernelRfl
namespace Go.Proofs.Ytlfkllmnekdghaa
/- THE CELL 'sum', in the pinned program and in every row, IS THE sha256 OF THE DUMP (.gsa) THAT YtlfkllmnekdghaaProg.lean LOADS. Nothing in Lean hashes anything: it is a label: what it is worth is what the hold of that sum in a sandbox is worth. -/
noncomputable def Try.pinned : Pinned := { name := "ytlfkllmnekdghaa", sum := "ebb0826c4fa3b8eafe78e947315cb815bc580b36d579689d61e62b36b785ae01", checked := Try.checked }
namespace Rows
def none {H : Type} : Left H := { results := [], args := [] }

/-- 'cobweblaw11.InputChecks': WHATEVER THE INPUT: true; the input reads as it did. -/
def inputChecksSpec : ChangeSpec := { name := "inputChecks", fn := fun _ => fun
  | [d] => { results := [.lit (.bool true)], args := [d] }
  | _ => none }
def inputChecksRow : OpenClaim := { program := "ytlfkllmnekdghaa", sum := "ebb0826c4fa3b8eafe78e947315cb815bc580b36d579689d61e62b36b785ae01", func := "cobweb/cobweblaw11.InputChecks", spec := "inputChecks", unfollowed := true, recurses := true, apart := false }
def InputChecksSaid : Prop := inputChecksRow.holds Try.pinned (OpenSpec.ofChange inputChecksSpec)

/-- ITS FALSE NEIGHBOUR: 'it returns false'. Refute it at one input. -/
def inputChecksWrong : ChangeSpec := { name := "inputChecks", fn := fun _ => fun
  | [d] => { results := [.lit (.bool false)], args := [d] }
  | _ => none }
def InputChecksWrongFalsely : Prop := inputChecksRow.holds Try.pinned (OpenSpec.ofChange inputChecksWrong)

/-- 'cobweblaw11.InputEdges': WHATEVER THE INPUT: true; the input reads as it did. -/
def inputEdgesSpec : ChangeSpec := { name := "inputEdges", fn := fun _ => fun
  | [d] => { results := [.lit (.bool true)], args := [d] }
  | _ => none }
def inputEdgesRow : OpenClaim := { program := "ytlfkllmnekdghaa", sum := "ebb0826c4fa3b8eafe78e947315cb815bc580b36d579689d61e62b36b785ae01", func := "cobweb/cobweblaw11.InputEdges", spec := "inputEdges", unfollowed := true, recurses := true, apart := false }
def InputEdgesSaid : Prop := inputEdgesRow.holds Try.pinned (OpenSpec.ofChange inputEdgesSpec)

/-- ITS FALSE NEIGHBOUR: 'it returns false'. Refute it at one input. -/
def inputEdgesWrong : ChangeSpec := { name := "inputEdges", fn := fun _ => fun
  | [d] => { results := [.lit (.bool false)], args := [d] }
  | _ => none }
def InputEdgesWrongFalsely : Prop := inputEdgesRow.holds Try.pinned (OpenSpec.ofChange inputEdgesWrong)

/-- 'cobweblaw11.InputSame': WHATEVER THE INPUT: true; the input reads as it did. -/
def inputSameSpec : ChangeSpec := { name := "inputSame", fn := fun _ => fun
  | [d1, d2] => { results := [.lit (.bool true)], args := [d1, d2] }
  | _ => none }
def inputSameRow : OpenClaim := { program := "ytlfkllmnekdghaa", sum := "ebb0826c4fa3b8eafe78e947315cb815bc580b36d579689d61e62b36b785ae01", func := "cobweb/cobweblaw11.InputSame", spec := "inputSame", unfollowed := true, recurses := true, apart := false }
def InputSameSaid : Prop := inputSameRow.holds Try.pinned (OpenSpec.ofChange inputSameSpec)

/-- ITS FALSE NEIGHBOUR: 'it returns false'. Refute it at one input. -/
def inputSameWrong : ChangeSpec := { name := "inputSame", fn := fun _ => fun
  | [d1, d2] => { results := [.lit (.bool false)], args := [d1, d2] }
  | _ => none }
def InputSameWrongFalsely : Prop := inputSameRow.holds Try.pinned (OpenSpec.ofChange inputSameWrong)

/-- 'cobweblaw11.InputWinds': WHATEVER THE INPUT: true; the input reads as it did. -/
def inputWindsSpec : ChangeSpec := { name := "inputWinds", fn := fun _ => fun
  | [d1, d2, d3] => { results := [.lit (.bool true)], args := [d1, d2, d3] }
  | _ => none }
def inputWindsRow : OpenClaim := { program := "ytlfkllmnekdghaa", sum := "ebb0826c4fa3b8eafe78e947315cb815bc580b36d579689d61e62b36b785ae01", func := "cobweb/cobweblaw11.InputWinds", spec := "inputWinds", unfollowed := true, recurses := true, apart := false }
def InputWindsSaid : Prop := inputWindsRow.holds Try.pinned (OpenSpec.ofChange inputWindsSpec)

/-- ITS FALSE NEIGHBOUR: 'it returns false'. Refute it at one input. -/
def inputWindsWrong : ChangeSpec := { name := "inputWinds", fn := fun _ => fun
  | [d1, d2, d3] => { results := [.lit (.bool false)], args := [d1, d2, d3] }
  | _ => none }
def InputWindsWrongFalsely : Prop := inputWindsRow.holds Try.pinned (OpenSpec.ofChange inputWindsWrong)

/-- 'cobweblaw11.InputTurned': WHATEVER THE INPUT: true; the input reads as it did. -/
def inputTurnedSpec : ChangeSpec := { name := "inputTurned", fn := fun _ => fun
  | [d1, d2, d3] => { results := [.lit (.bool true)], args := [d1, d2, d3] }
  | _ => none }
def inputTurnedRow : OpenClaim := { program := "ytlfkllmnekdghaa", sum := "ebb0826c4fa3b8eafe78e947315cb815bc580b36d579689d61e62b36b785ae01", func := "cobweb/cobweblaw11.InputTurned", spec := "inputTurned", unfollowed := true, recurses := true, apart := false }
def InputTurnedSaid : Prop := inputTurnedRow.holds Try.pinned (OpenSpec.ofChange inputTurnedSpec)

/-- ITS FALSE NEIGHBOUR: 'it returns false'. Refute it at one input. -/
def inputTurnedWrong : ChangeSpec := { name := "inputTurned", fn := fun _ => fun
  | [d1, d2, d3] => { results := [.lit (.bool false)], args := [d1, d2, d3] }
  | _ => none }
def InputTurnedWrongFalsely : Prop := inputTurnedRow.holds Try.pinned (OpenSpec.ofChange inputTurnedWrong)

/-- 'cobweblaw11.InputDoes': WHATEVER THE INPUT: true; the input reads as it did. -/
def inputDoesSpec : ChangeSpec := { name := "inputDoes", fn := fun _ => fun
  | [d1, d2, d3] => { results := [.lit (.bool true)], args := [d1, d2, d3] }
  | _ => none }
def inputDoesRow : OpenClaim := { program := "ytlfkllmnekdghaa", sum := "ebb0826c4fa3b8eafe78e947315cb815bc580b36d579689d61e62b36b785ae01", func := "cobweb/cobweblaw11.InputDoes", spec := "inputDoes", unfollowed := true, recurses := true, apart := false }
def InputDoesSaid : Prop := inputDoesRow.holds Try.pinned (OpenSpec.ofChange inputDoesSpec)

/-- ITS FALSE NEIGHBOUR: 'it returns false'. Refute it at one input. -/
def inputDoesWrong : ChangeSpec := { name := "inputDoes", fn := fun _ => fun
  | [d1, d2, d3] => { results := [.lit (.bool false)], args := [d1, d2, d3] }
  | _ => none }
def InputDoesWrongFalsely : Prop := inputDoesRow.holds Try.pinned (OpenSpec.ofChange inputDoesWrong)

/-- 'cobweblaw11.InputMoved': WHATEVER THE INPUT: true; the input reads as it did. -/
def inputMovedSpec : ChangeSpec := { name := "inputMoved", fn := fun _ => fun
  | [d1, d2, d3] => { results := [.lit (.bool true)], args := [d1, d2, d3] }
  | _ => none }
def inputMovedRow : OpenClaim := { program := "ytlfkllmnekdghaa", sum := "ebb0826c4fa3b8eafe78e947315cb815bc580b36d579689d61e62b36b785ae01", func := "cobweb/cobweblaw11.InputMoved", spec := "inputMoved", unfollowed := true, recurses := true, apart := false }
def InputMovedSaid : Prop := inputMovedRow.holds Try.pinned (OpenSpec.ofChange inputMovedSpec)

/-- ITS FALSE NEIGHBOUR: 'it returns false'. Refute it at one input. -/
def inputMovedWrong : ChangeSpec := { name := "inputMoved", fn := fun _ => fun
  | [d1, d2, d3] => { results := [.lit (.bool false)], args := [d1, d2, d3] }
  | _ => none }
def InputMovedWrongFalsely : Prop := inputMovedRow.holds Try.pinned (OpenSpec.ofChange inputMovedWrong)

/- THE SECOND FORM. 'bulk': how many values and letters a reading holds, each counted each time it is reached (what is shared counts as often as it is met; a slice's spare places count too). A statement '..UptoSaid' is the law's where the arguments, and the package variables that the reading takes, are together of bulk at most 1048576: NARROWER than '..Said'. Prove '..Said' where nothing that the law and all that it calls make is longer than what came in: it says more and counts as full. Else prove '..UptoSaid'. A law counts once. -/
mutual
def uptoBulk {H : Type} : DataW H → Nat
  | .lit (.string bytes) => bytes.length + 1
  | .lit _ => 1
  | .nil => 1
  | .ptr d => uptoBulk d + 1
  | .slice elems spare => uptoBulkAll elems + uptoBulkAll spare + 1
  | .agg parts => uptoBulkAll parts + 1
  | .iface _ d => uptoBulk d + 1
  | .map entries => uptoBulkEntries entries + 1
  | .held _ => 1
def uptoBulkAll {H : Type} : List (DataW H) → Nat
  | [] => 0
  | d :: r => uptoBulk d + uptoBulkAll r
def uptoBulkEntries {H : Type} : List (Lit × DataW H) → Nat
  | [] => 0
  | x :: r => uptoBulkEntry x + uptoBulkEntries r
def uptoBulkEntry {H : Type} : Lit × DataW H → Nat
  | (.string bytes, d) => bytes.length + uptoBulk d + 1
  | (_, d) => uptoBulk d + 1
 end
def uptoSmall : (H : Type) → List (DataW H) → Bool := fun _ ds => decide (uptoBulkAll ds ≤ 1048576)
def OpenSpec.upto (s : _root_.Go.ChangeSpec) : _root_.Go.OpenSpec := { _root_.Go.OpenSpec.ofChange s with cond := some uptoSmall }

/-- 'cobweblaw11.InputChecks', WHERE WHAT IT READS IS OF BULK AT MOST 1048576: true; the input reads as it did. -/
def inputChecksUptoRow : OpenClaim := { program := "ytlfkllmnekdghaa", sum := "ebb0826c4fa3b8eafe78e947315cb815bc580b36d579689d61e62b36b785ae01", func := "cobweb/cobweblaw11.InputChecks", spec := "inputChecks", unfollowed := true, recurses := true, apart := false, narrowed := true }
def InputChecksUptoSaid : Prop := inputChecksUptoRow.holds Try.pinned (OpenSpec.upto inputChecksSpec)

/-- 'cobweblaw11.InputEdges', WHERE WHAT IT READS IS OF BULK AT MOST 1048576: true; the input reads as it did. -/
def inputEdgesUptoRow : OpenClaim := { program := "ytlfkllmnekdghaa", sum := "ebb0826c4fa3b8eafe78e947315cb815bc580b36d579689d61e62b36b785ae01", func := "cobweb/cobweblaw11.InputEdges", spec := "inputEdges", unfollowed := true, recurses := true, apart := false, narrowed := true }
def InputEdgesUptoSaid : Prop := inputEdgesUptoRow.holds Try.pinned (OpenSpec.upto inputEdgesSpec)

/-- 'cobweblaw11.InputSame', WHERE WHAT IT READS IS OF BULK AT MOST 1048576: true; the input reads as it did. -/
def inputSameUptoRow : OpenClaim := { program := "ytlfkllmnekdghaa", sum := "ebb0826c4fa3b8eafe78e947315cb815bc580b36d579689d61e62b36b785ae01", func := "cobweb/cobweblaw11.InputSame", spec := "inputSame", unfollowed := true, recurses := true, apart := false, narrowed := true }
def InputSameUptoSaid : Prop := inputSameUptoRow.holds Try.pinned (OpenSpec.upto inputSameSpec)

/-- 'cobweblaw11.InputWinds', WHERE WHAT IT READS IS OF BULK AT MOST 1048576: true; the input reads as it did. -/
def inputWindsUptoRow : OpenClaim := { program := "ytlfkllmnekdghaa", sum := "ebb0826c4fa3b8eafe78e947315cb815bc580b36d579689d61e62b36b785ae01", func := "cobweb/cobweblaw11.InputWinds", spec := "inputWinds", unfollowed := true, recurses := true, apart := false, narrowed := true }
def InputWindsUptoSaid : Prop := inputWindsUptoRow.holds Try.pinned (OpenSpec.upto inputWindsSpec)

/-- 'cobweblaw11.InputTurned', WHERE WHAT IT READS IS OF BULK AT MOST 1048576: true; the input reads as it did. -/
def inputTurnedUptoRow : OpenClaim := { program := "ytlfkllmnekdghaa", sum := "ebb0826c4fa3b8eafe78e947315cb815bc580b36d579689d61e62b36b785ae01", func := "cobweb/cobweblaw11.InputTurned", spec := "inputTurned", unfollowed := true, recurses := true, apart := false, narrowed := true }
def InputTurnedUptoSaid : Prop := inputTurnedUptoRow.holds Try.pinned (OpenSpec.upto inputTurnedSpec)

/-- 'cobweblaw11.InputDoes', WHERE WHAT IT READS IS OF BULK AT MOST 1048576: true; the input reads as it did. -/
def inputDoesUptoRow : OpenClaim := { program := "ytlfkllmnekdghaa", sum := "ebb0826c4fa3b8eafe78e947315cb815bc580b36d579689d61e62b36b785ae01", func := "cobweb/cobweblaw11.InputDoes", spec := "inputDoes", unfollowed := true, recurses := true, apart := false, narrowed := true }
def InputDoesUptoSaid : Prop := inputDoesUptoRow.holds Try.pinned (OpenSpec.upto inputDoesSpec)

/-- 'cobweblaw11.InputMoved', WHERE WHAT IT READS IS OF BULK AT MOST 1048576: true; the input reads as it did. -/
def inputMovedUptoRow : OpenClaim := { program := "ytlfkllmnekdghaa", sum := "ebb0826c4fa3b8eafe78e947315cb815bc580b36d579689d61e62b36b785ae01", func := "cobweb/cobweblaw11.InputMoved", spec := "inputMoved", unfollowed := true, recurses := true, apart := false, narrowed := true }
def InputMovedUptoSaid : Prop := inputMovedUptoRow.holds Try.pinned (OpenSpec.upto inputMovedSpec)

end Rows
end Go.Proofs.Ytlfkllmnekdghaa
