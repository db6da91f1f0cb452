/-
  No cell of these rows narrows 'for every input' (looked for: loops, veiled, ifaces, maps, wideKeys, modest, calm, conditions, laid).
  DERIVED. THE GIVEN ROWS OF THIS SEAT. 6 by the template 'for every input the law returns true; each argument reads behind the call as it read before'; 0 by the template 'total and deterministic' (their statements: YtaennpehlhgggaaTotals.lean).
  GIVEN WITH THE SEED: the statements are not yours to turn. If you find one false, say at which input.
  Laid BY PROGRAM, IN A SANDBOX (cutbox-rows.mjs): the forced cells as the released guide's own fill.sh prints them over the translation 2760deae8cad2579… (all of the seat's roots in one cut). By AI agents, Wed Nov 11 2026. No macro, syntax, notation, axiom, sorry.
-/
import Derived.Test.YtaennpehlhgggaaChecked
import GoSem.Claim
import GoSem.ClaimJoined
import GoSem.ClaimMapViews
import Derived.JoinedTies
import Derived.KernelRfl
namespace Go.Proofs.Ytaennpehlhgggaa
/- THE CELL 'sum', in the pinned program and in every row, IS THE sha256 OF THE DUMP (.gsa) THAT YtaennpehlhgggaaProg.lean LOADS. Nothing in Lean hashes anything: it is a label: what it is worth is what the hold of that sum in a sandbox is worth. -/
noncomputable def Try.pinned : Pinned := { name := "ytaennpehlhgggaa", sum := "2760deae8cad257959607a88c41f33d0c8426b6b73f1a211ac66dc15dab18c9a", checked := Try.checked }
namespace Rows
def none {H : Type} : Left H := { results := [], args := [] }

/-- 'cobweblaw09.HotAdds': WHATEVER THE INPUT: true; the input reads as it did. -/
def hotAddsSpec : ChangeSpec := { name := "hotAdds", fn := fun _ => fun
  | [d1, d2] => { results := [.lit (.bool true)], args := [d1, d2] }
  | _ => none }
def hotAddsRow : OpenClaim := { program := "ytaennpehlhgggaa", sum := "2760deae8cad257959607a88c41f33d0c8426b6b73f1a211ac66dc15dab18c9a", func := "cobweb/cobweblaw09.HotAdds", spec := "hotAdds", inPlace := ["slices.overlaps[cobweb/near.Entry[int]]"], unfollowed := true, recurses := true, apart := false }
def HotAddsSaid : Prop := hotAddsRow.holds Try.pinned (OpenSpec.ofChange hotAddsSpec)

/-- ITS FALSE NEIGHBOUR: 'it returns false'. Refute it at one input. -/
def hotAddsWrong : ChangeSpec := { name := "hotAdds", fn := fun _ => fun
  | [d1, d2] => { results := [.lit (.bool false)], args := [d1, d2] }
  | _ => none }
def HotAddsWrongFalsely : Prop := hotAddsRow.holds Try.pinned (OpenSpec.ofChange hotAddsWrong)

/-- 'cobweblaw09.HotNear': WHATEVER THE INPUT: true; the input reads as it did. -/
def hotNearSpec : ChangeSpec := { name := "hotNear", fn := fun _ => fun
  | [d1, d2, d3] => { results := [.lit (.bool true)], args := [d1, d2, d3] }
  | _ => none }
def hotNearRow : OpenClaim := { program := "ytaennpehlhgggaa", sum := "2760deae8cad257959607a88c41f33d0c8426b6b73f1a211ac66dc15dab18c9a", func := "cobweb/cobweblaw09.HotNear", spec := "hotNear", inPlace := ["slices.overlaps[cobweb/near.Entry[int]]"], unfollowed := true, recurses := true, apart := false }
def HotNearSaid : Prop := hotNearRow.holds Try.pinned (OpenSpec.ofChange hotNearSpec)

/-- ITS FALSE NEIGHBOUR: 'it returns false'. Refute it at one input. -/
def hotNearWrong : ChangeSpec := { name := "hotNear", fn := fun _ => fun
  | [d1, d2, d3] => { results := [.lit (.bool false)], args := [d1, d2, d3] }
  | _ => none }
def HotNearWrongFalsely : Prop := hotNearRow.holds Try.pinned (OpenSpec.ofChange hotNearWrong)

/-- 'cobweblaw09.HotMet': WHATEVER THE INPUT: true; the input reads as it did. -/
def hotMetSpec : ChangeSpec := { name := "hotMet", fn := fun _ => fun
  | [d1, d2, d3] => { results := [.lit (.bool true)], args := [d1, d2, d3] }
  | _ => none }
def hotMetRow : OpenClaim := { program := "ytaennpehlhgggaa", sum := "2760deae8cad257959607a88c41f33d0c8426b6b73f1a211ac66dc15dab18c9a", func := "cobweb/cobweblaw09.HotMet", spec := "hotMet", inPlace := ["slices.overlaps[cobweb/near.Entry[int]]"], unfollowed := true, recurses := true, apart := false }
def HotMetSaid : Prop := hotMetRow.holds Try.pinned (OpenSpec.ofChange hotMetSpec)

/-- ITS FALSE NEIGHBOUR: 'it returns false'. Refute it at one input. -/
def hotMetWrong : ChangeSpec := { name := "hotMet", fn := fun _ => fun
  | [d1, d2, d3] => { results := [.lit (.bool false)], args := [d1, d2, d3] }
  | _ => none }
def HotMetWrongFalsely : Prop := hotMetRow.holds Try.pinned (OpenSpec.ofChange hotMetWrong)

/-- 'cobweblaw09.HotRoom': WHATEVER THE INPUT: true; the input reads as it did. -/
def hotRoomSpec : ChangeSpec := { name := "hotRoom", fn := fun _ => fun
  | [d1, d2] => { results := [.lit (.bool true)], args := [d1, d2] }
  | _ => none }
def hotRoomRow : OpenClaim := { program := "ytaennpehlhgggaa", sum := "2760deae8cad257959607a88c41f33d0c8426b6b73f1a211ac66dc15dab18c9a", func := "cobweb/cobweblaw09.HotRoom", spec := "hotRoom", inPlace := ["slices.overlaps[cobweb/near.Entry[int]]"], unfollowed := true, recurses := true, apart := false }
def HotRoomSaid : Prop := hotRoomRow.holds Try.pinned (OpenSpec.ofChange hotRoomSpec)

/-- ITS FALSE NEIGHBOUR: 'it returns false'. Refute it at one input. -/
def hotRoomWrong : ChangeSpec := { name := "hotRoom", fn := fun _ => fun
  | [d1, d2] => { results := [.lit (.bool false)], args := [d1, d2] }
  | _ => none }
def HotRoomWrongFalsely : Prop := hotRoomRow.holds Try.pinned (OpenSpec.ofChange hotRoomWrong)

/-- 'cobweblaw09.HotOwn': WHATEVER THE INPUT: true; the input reads as it did. -/
def hotOwnSpec : ChangeSpec := { name := "hotOwn", fn := fun _ => fun
  | [d1, d2] => { results := [.lit (.bool true)], args := [d1, d2] }
  | _ => none }
def hotOwnRow : OpenClaim := { program := "ytaennpehlhgggaa", sum := "2760deae8cad257959607a88c41f33d0c8426b6b73f1a211ac66dc15dab18c9a", func := "cobweb/cobweblaw09.HotOwn", spec := "hotOwn", inPlace := ["slices.overlaps[cobweb/near.Entry[int]]"], unfollowed := true, recurses := true, apart := false }
def HotOwnSaid : Prop := hotOwnRow.holds Try.pinned (OpenSpec.ofChange hotOwnSpec)

/-- ITS FALSE NEIGHBOUR: 'it returns false'. Refute it at one input. -/
def hotOwnWrong : ChangeSpec := { name := "hotOwn", fn := fun _ => fun
  | [d1, d2] => { results := [.lit (.bool false)], args := [d1, d2] }
  | _ => none }
def HotOwnWrongFalsely : Prop := hotOwnRow.holds Try.pinned (OpenSpec.ofChange hotOwnWrong)

/-- 'cobweblaw09.HotEnds': WHATEVER THE INPUT: true; the input reads as it did. -/
def hotEndsSpec : ChangeSpec := { name := "hotEnds", fn := fun _ => fun
  | [d1, d2, d3] => { results := [.lit (.bool true)], args := [d1, d2, d3] }
  | _ => none }
def hotEndsRow : OpenClaim := { program := "ytaennpehlhgggaa", sum := "2760deae8cad257959607a88c41f33d0c8426b6b73f1a211ac66dc15dab18c9a", func := "cobweb/cobweblaw09.HotEnds", spec := "hotEnds", inPlace := ["slices.overlaps[cobweb/near.Entry[int]]"], unfollowed := true, recurses := true, apart := false }
def HotEndsSaid : Prop := hotEndsRow.holds Try.pinned (OpenSpec.ofChange hotEndsSpec)

/-- ITS FALSE NEIGHBOUR: 'it returns false'. Refute it at one input. -/
def hotEndsWrong : ChangeSpec := { name := "hotEnds", fn := fun _ => fun
  | [d1, d2, d3] => { results := [.lit (.bool false)], args := [d1, d2, d3] }
  | _ => none }
def HotEndsWrongFalsely : Prop := hotEndsRow.holds Try.pinned (OpenSpec.ofChange hotEndsWrong)

/- THE SECOND FORM. 'bulk': how many values and letters a reading holds, each counted each time it is reached (what is shared counts as often as it is met; a slice's spare places count too). A statement '..UptoSaid' is the law's where the arguments, and the package variables that the reading takes, are together of bulk at most 1048576: NARROWER than '..Said'. Prove '..Said' where nothing that the law and all that it calls make is longer than what came in: it says more and counts as full. Else prove '..UptoSaid'. A law counts once. -/
mutual
def uptoBulk {H : Type} : DataW H → Nat
  | .lit (.string bytes) => bytes.length + 1
  | .lit _ => 1
  | .nil => 1
  | .ptr d => uptoBulk d + 1
  | .slice elems spare => uptoBulkAll elems + uptoBulkAll spare + 1
  | .agg parts => uptoBulkAll parts + 1
  | .iface _ d => uptoBulk d + 1
  | .map entries => uptoBulkEntries entries + 1
  | .held _ => 1
def uptoBulkAll {H : Type} : List (DataW H) → Nat
  | [] => 0
  | d :: r => uptoBulk d + uptoBulkAll r
def uptoBulkEntries {H : Type} : List (Lit × DataW H) → Nat
  | [] => 0
  | x :: r => uptoBulkEntry x + uptoBulkEntries r
def uptoBulkEntry {H : Type} : Lit × DataW H → Nat
  | (.string bytes, d) => bytes.length + uptoBulk d + 1
  | (_, d) => uptoBulk d + 1
 end
def uptoSmall : (H : Type) → List (DataW H) → Bool := fun _ ds => decide (uptoBulkAll ds ≤ 1048576)
def OpenSpec.upto (s : _root_.Go.ChangeSpec) : _root_.Go.OpenSpec := { _root_.Go.OpenSpec.ofChange s with cond := some uptoSmall }

/-- 'cobweblaw09.HotAdds', WHERE WHAT IT READS IS OF BULK AT MOST 1048576: true; the input reads as it did. -/
def hotAddsUptoRow : OpenClaim := { program := "ytaennpehlhgggaa", sum := "2760deae8cad257959607a88c41f33d0c8426b6b73f1a211ac66dc15dab18c9a", func := "cobweb/cobweblaw09.HotAdds", spec := "hotAdds", inPlace := ["slices.overlaps[cobweb/near.Entry[int]]"], unfollowed := true, recurses := true, apart := false, narrowed := true }
def HotAddsUptoSaid : Prop := hotAddsUptoRow.holds Try.pinned (OpenSpec.upto hotAddsSpec)

/-- 'cobweblaw09.HotNear', WHERE WHAT IT READS IS OF BULK AT MOST 1048576: true; the input reads as it did. -/
def hotNearUptoRow : OpenClaim := { program := "ytaennpehlhgggaa", sum := "2760deae8cad257959607a88c41f33d0c8426b6b73f1a211ac66dc15dab18c9a", func := "cobweb/cobweblaw09.HotNear", spec := "hotNear", inPlace := ["slices.overlaps[cobweb/near.Entry[int]]"], unfollowed := true, recurses := true, apart := false, narrowed := true }
def HotNearUptoSaid : Prop := hotNearUptoRow.holds Try.pinned (OpenSpec.upto hotNearSpec)

/-- 'cobweblaw09.HotMet', WHERE WHAT IT READS IS OF BULK AT MOST 1048576: true; the input reads as it did. -/
def hotMetUptoRow : OpenClaim := { program := "ytaennpehlhgggaa", sum := "2760deae8cad257959607a88c41f33d0c8426b6b73f1a211ac66dc15dab18c9a", func := "cobweb/cobweblaw09.HotMet", spec := "hotMet", inPlace := ["slices.overlaps[cobweb/near.Entry[int]]"], unfollowed := true, recurses := true, apart := false, narrowed := true }
def HotMetUptoSaid : Prop := hotMetUptoRow.holds Try.pinned (OpenSpec.upto hotMetSpec)

/-- 'cobweblaw09.HotRoom', WHERE WHAT IT READS IS OF BULK AT MOST 1048576: true; the input reads as it did. -/
def hotRoomUptoRow : OpenClaim := { program := "ytaennpehlhgggaa", sum := "2760deae8cad257959607a88c41f33d0c8426b6b73f1a211ac66dc15dab18c9a", func := "cobweb/cobweblaw09.HotRoom", spec := "hotRoom", inPlace := ["slices.overlaps[cobweb/near.Entry[int]]"], unfollowed := true, recurses := true, apart := false, narrowed := true }
def HotRoomUptoSaid : Prop := hotRoomUptoRow.holds Try.pinned (OpenSpec.upto hotRoomSpec)

/-- 'cobweblaw09.HotOwn', WHERE WHAT IT READS IS OF BULK AT MOST 1048576: true; the input reads as it did. -/
def hotOwnUptoRow : OpenClaim := { program := "ytaennpehlhgggaa", sum := "2760deae8cad257959607a88c41f33d0c8426b6b73f1a211ac66dc15dab18c9a", func := "cobweb/cobweblaw09.HotOwn", spec := "hotOwn", inPlace := ["slices.overlaps[cobweb/near.Entry[int]]"], unfollowed := true, recurses := true, apart := false, narrowed := true }
def HotOwnUptoSaid : Prop := hotOwnUptoRow.holds Try.pinned (OpenSpec.upto hotOwnSpec)

/-- 'cobweblaw09.HotEnds', WHERE WHAT IT READS IS OF BULK AT MOST 1048576: true; the input reads as it did. -/
def hotEndsUptoRow : OpenClaim := { program := "ytaennpehlhgggaa", sum := "2760deae8cad257959607a88c41f33d0c8426b6b73f1a211ac66dc15dab18c9a", func := "cobweb/cobweblaw09.HotEnds", spec := "hotEnds", inPlace := ["slices.overlaps[cobweb/near.Entry[int]]"], unfollowed := true, recurses := true, apart := false, narrowed := true }
def HotEndsUptoSaid : Prop := hotEndsUptoRow.holds Try.pinned (OpenSpec.upto hotEndsSpec)

end Rows
end Go.Proofs.Ytaennpehlhgggaa
