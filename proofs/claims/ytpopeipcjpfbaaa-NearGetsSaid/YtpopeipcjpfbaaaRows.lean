/-
  No cell of these rows narrows 'for every input' (looked for: loops, veiled, ifaces, maps, wideKeys, modest, calm, conditions, laid).
  DERIVED. THE GIVEN ROWS OF THIS SEAT. 5 by the template 'for every input the law returns true; each argument reads behind the call as it read before'; 0 by the template 'total and deterministic' (their statements: YtpopeipcjpfbaaaTotals.lean).
  GIVEN WITH THE SEED: the statements are not yours to turn. If you find one false, say at which input.
  Laid BY PROGRAM, IN A SANDBOX (cutbox-rows.mjs): the forced cells as the released guide's own fill.sh prints them over the translation 88fc771b28ad6956… (all of the seat's roots in one cut). By AI agents, Wed Nov 11 2026. No macro, syntax, notation, axiom, sorry.
-/
import Derived.Test.YtpopeipcjpfbaaaChecked
import GoSem.Claim
import GoSem.ClaimJoined
import GoSem.ClaimMapViews
import Derived.JoinedTies
import Derived.KernelRfl
namespace Go.Proofs.Ytpopeipcjpfbaaa
/- THE CELL 'sum', in the pinned program and in every row, IS THE sha256 OF THE DUMP (.gsa) THAT YtpopeipcjpfbaaaProg.lean LOADS. Nothing in Lean hashes anything: it is a label: what it is worth is what the hold of that sum in a sandbox is worth. -/
noncomputable def Try.pinned : Pinned := { name := "ytpopeipcjpfbaaa", sum := "88fc771b28ad695626eb5791cc8860bddd04717d4f7ad9af297652da2965be7c", checked := Try.checked }
namespace Rows
def none {H : Type} : Left H := { results := [], args := [] }

/-- 'cobweblaw08.NearAll': WHATEVER THE INPUT: true; the input reads as it did. -/
def nearAllSpec : ChangeSpec := { name := "nearAll", fn := fun _ => fun
  | [d] => { results := [.lit (.bool true)], args := [d] }
  | _ => none }
def nearAllRow : OpenClaim := { program := "ytpopeipcjpfbaaa", sum := "88fc771b28ad695626eb5791cc8860bddd04717d4f7ad9af297652da2965be7c", func := "cobweb/cobweblaw08.NearAll", spec := "nearAll", inPlace := ["slices.overlaps[cobweb/near.Entry[int]]"], unfollowed := true, recurses := true, apart := false }
def NearAllSaid : Prop := nearAllRow.holds Try.pinned (OpenSpec.ofChange nearAllSpec)

/-- ITS FALSE NEIGHBOUR: 'it returns false'. Refute it at one input. -/
def nearAllWrong : ChangeSpec := { name := "nearAll", fn := fun _ => fun
  | [d] => { results := [.lit (.bool false)], args := [d] }
  | _ => none }
def NearAllWrongFalsely : Prop := nearAllRow.holds Try.pinned (OpenSpec.ofChange nearAllWrong)

/-- 'cobweblaw08.NearGets': WHATEVER THE INPUT: true; the input reads as it did. -/
def nearGetsSpec : ChangeSpec := { name := "nearGets", fn := fun _ => fun
  | [d1, d2] => { results := [.lit (.bool true)], args := [d1, d2] }
  | _ => none }
def nearGetsRow : OpenClaim := { program := "ytpopeipcjpfbaaa", sum := "88fc771b28ad695626eb5791cc8860bddd04717d4f7ad9af297652da2965be7c", func := "cobweb/cobweblaw08.NearGets", spec := "nearGets", inPlace := ["slices.overlaps[cobweb/near.Entry[int]]"], unfollowed := true, recurses := true, apart := false }
def NearGetsSaid : Prop := nearGetsRow.holds Try.pinned (OpenSpec.ofChange nearGetsSpec)

/-- ITS FALSE NEIGHBOUR: 'it returns false'. Refute it at one input. -/
def nearGetsWrong : ChangeSpec := { name := "nearGets", fn := fun _ => fun
  | [d1, d2] => { results := [.lit (.bool false)], args := [d1, d2] }
  | _ => none }
def NearGetsWrongFalsely : Prop := nearGetsRow.holds Try.pinned (OpenSpec.ofChange nearGetsWrong)

/-- 'cobweblaw08.NearIn': WHATEVER THE INPUT: true; the input reads as it did. -/
def nearInSpec : ChangeSpec := { name := "nearIn", fn := fun _ => fun
  | [d1, d2, d3] => { results := [.lit (.bool true)], args := [d1, d2, d3] }
  | _ => none }
def nearInRow : OpenClaim := { program := "ytpopeipcjpfbaaa", sum := "88fc771b28ad695626eb5791cc8860bddd04717d4f7ad9af297652da2965be7c", func := "cobweb/cobweblaw08.NearIn", spec := "nearIn", inPlace := ["slices.overlaps[cobweb/near.Entry[int]]"], unfollowed := true, recurses := true, apart := false }
def NearInSaid : Prop := nearInRow.holds Try.pinned (OpenSpec.ofChange nearInSpec)

/-- ITS FALSE NEIGHBOUR: 'it returns false'. Refute it at one input. -/
def nearInWrong : ChangeSpec := { name := "nearIn", fn := fun _ => fun
  | [d1, d2, d3] => { results := [.lit (.bool false)], args := [d1, d2, d3] }
  | _ => none }
def NearInWrongFalsely : Prop := nearInRow.holds Try.pinned (OpenSpec.ofChange nearInWrong)

/-- 'cobweblaw08.NearOwn': WHATEVER THE INPUT: true; the input reads as it did. -/
def nearOwnSpec : ChangeSpec := { name := "nearOwn", fn := fun _ => fun
  | [d1, d2] => { results := [.lit (.bool true)], args := [d1, d2] }
  | _ => none }
def nearOwnRow : OpenClaim := { program := "ytpopeipcjpfbaaa", sum := "88fc771b28ad695626eb5791cc8860bddd04717d4f7ad9af297652da2965be7c", func := "cobweb/cobweblaw08.NearOwn", spec := "nearOwn", inPlace := ["slices.overlaps[cobweb/near.Entry[int]]"], unfollowed := true, recurses := true, apart := false }
def NearOwnSaid : Prop := nearOwnRow.holds Try.pinned (OpenSpec.ofChange nearOwnSpec)

/-- ITS FALSE NEIGHBOUR: 'it returns false'. Refute it at one input. -/
def nearOwnWrong : ChangeSpec := { name := "nearOwn", fn := fun _ => fun
  | [d1, d2] => { results := [.lit (.bool false)], args := [d1, d2] }
  | _ => none }
def NearOwnWrongFalsely : Prop := nearOwnRow.holds Try.pinned (OpenSpec.ofChange nearOwnWrong)

/-- 'cobweblaw08.NearParts': WHATEVER THE INPUT: true; the input reads as it did. -/
def nearPartsSpec : ChangeSpec := { name := "nearParts", fn := fun _ => fun
  | [d1, d2, d3] => { results := [.lit (.bool true)], args := [d1, d2, d3] }
  | _ => none }
def nearPartsRow : OpenClaim := { program := "ytpopeipcjpfbaaa", sum := "88fc771b28ad695626eb5791cc8860bddd04717d4f7ad9af297652da2965be7c", func := "cobweb/cobweblaw08.NearParts", spec := "nearParts", inPlace := ["slices.overlaps[cobweb/near.Entry[int]]"], unfollowed := true, recurses := true, apart := false }
def NearPartsSaid : Prop := nearPartsRow.holds Try.pinned (OpenSpec.ofChange nearPartsSpec)

/-- ITS FALSE NEIGHBOUR: 'it returns false'. Refute it at one input. -/
def nearPartsWrong : ChangeSpec := { name := "nearParts", fn := fun _ => fun
  | [d1, d2, d3] => { results := [.lit (.bool false)], args := [d1, d2, d3] }
  | _ => none }
def NearPartsWrongFalsely : Prop := nearPartsRow.holds Try.pinned (OpenSpec.ofChange nearPartsWrong)

/- THE SECOND FORM. 'bulk': how many values and letters a reading holds, each counted each time it is reached (what is shared counts as often as it is met; a slice's spare places count too). A statement '..UptoSaid' is the law's where the arguments, and the package variables that the reading takes, are together of bulk at most 1048576: NARROWER than '..Said'. Prove '..Said' where nothing that the law and all that it calls make is longer than what came in: it says more and counts as full. Else prove '..UptoSaid'. A law counts once. -/
mutual
def uptoBulk {H : Type} : DataW H → Nat
  | .lit (.string bytes) => bytes.length + 1
  | .lit _ => 1
  | .nil => 1
  | .ptr d => uptoBulk d + 1
  | .slice elems spare => uptoBulkAll elems + uptoBulkAll spare + 1
  | .agg parts => uptoBulkAll parts + 1
  | .iface _ d => uptoBulk d + 1
  | .map entries => uptoBulkEntries entries + 1
  | .held _ => 1
def uptoBulkAll {H : Type} : List (DataW H) → Nat
  | [] => 0
  | d :: r => uptoBulk d + uptoBulkAll r
def uptoBulkEntries {H : Type} : List (Lit × DataW H) → Nat
  | [] => 0
  | x :: r => uptoBulkEntry x + uptoBulkEntries r
def uptoBulkEntry {H : Type} : Lit × DataW H → Nat
  | (.string bytes, d) => bytes.length + uptoBulk d + 1
  | (_, d) => uptoBulk d + 1
 end
def uptoSmall : (H : Type) → List (DataW H) → Bool := fun _ ds => decide (uptoBulkAll ds ≤ 1048576)
def OpenSpec.upto (s : _root_.Go.ChangeSpec) : _root_.Go.OpenSpec := { _root_.Go.OpenSpec.ofChange s with cond := some uptoSmall }

/-- 'cobweblaw08.NearAll', WHERE WHAT IT READS IS OF BULK AT MOST 1048576: true; the input reads as it did. -/
def nearAllUptoRow : OpenClaim := { program := "ytpopeipcjpfbaaa", sum := "88fc771b28ad695626eb5791cc8860bddd04717d4f7ad9af297652da2965be7c", func := "cobweb/cobweblaw08.NearAll", spec := "nearAll", inPlace := ["slices.overlaps[cobweb/near.Entry[int]]"], unfollowed := true, recurses := true, apart := false, narrowed := true }
def NearAllUptoSaid : Prop := nearAllUptoRow.holds Try.pinned (OpenSpec.upto nearAllSpec)

/-- 'cobweblaw08.NearGets', WHERE WHAT IT READS IS OF BULK AT MOST 1048576: true; the input reads as it did. -/
def nearGetsUptoRow : OpenClaim := { program := "ytpopeipcjpfbaaa", sum := "88fc771b28ad695626eb5791cc8860bddd04717d4f7ad9af297652da2965be7c", func := "cobweb/cobweblaw08.NearGets", spec := "nearGets", inPlace := ["slices.overlaps[cobweb/near.Entry[int]]"], unfollowed := true, recurses := true, apart := false, narrowed := true }
def NearGetsUptoSaid : Prop := nearGetsUptoRow.holds Try.pinned (OpenSpec.upto nearGetsSpec)

/-- 'cobweblaw08.NearIn', WHERE WHAT IT READS IS OF BULK AT MOST 1048576: true; the input reads as it did. -/
def nearInUptoRow : OpenClaim := { program := "ytpopeipcjpfbaaa", sum := "88fc771b28ad695626eb5791cc8860bddd04717d4f7ad9af297652da2965be7c", func := "cobweb/cobweblaw08.NearIn", spec := "nearIn", inPlace := ["slices.overlaps[cobweb/near.Entry[int]]"], unfollowed := true, recurses := true, apart := false, narrowed := true }
def NearInUptoSaid : Prop := nearInUptoRow.holds Try.pinned (OpenSpec.upto nearInSpec)

/-- 'cobweblaw08.NearOwn', WHERE WHAT IT READS IS OF BULK AT MOST 1048576: true; the input reads as it did. -/
def nearOwnUptoRow : OpenClaim := { program := "ytpopeipcjpfbaaa", sum := "88fc771b28ad695626eb5791cc8860bddd04717d4f7ad9af297652da2965be7c", func := "cobweb/cobweblaw08.NearOwn", spec := "nearOwn", inPlace := ["slices.overlaps[cobweb/near.Entry[int]]"], unfollowed := true, recurses := true, apart := false, narrowed := true }
def NearOwnUptoSaid : Prop := nearOwnUptoRow.holds Try.pinned (OpenSpec.upto nearOwnSpec)

/-- 'cobweblaw08.NearParts', WHERE WHAT IT READS IS OF BULK AT MOST 1048576: true; the input reads as it did. -/
def nearPartsUptoRow : OpenClaim := { program := "ytpopeipcjpfbaaa", sum := "88fc771b28ad695626eb5791cc8860bddd04717d4f7ad9af297652da2965be7c", func := "cobweb/cobweblaw08.NearParts", spec := "nearParts", inPlace := ["slices.overlaps[cobweb/near.Entry[int]]"], unfollowed := true, recurses := true, apart := false, narrowed := true }
def NearPartsUptoSaid : Prop := nearPartsUptoRow.holds Try.pinned (OpenSpec.upto nearPartsSpec)

end Rows
end Go.Proofs.Ytpopeipcjpfbaaa
