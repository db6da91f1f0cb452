/-
  No cell of these rows narrows 'for every input' (looked for: loops, veiled, ifaces, maps, wideKeys, modest, calm, conditions, laid).
  DERIVED. THE GIVEN ROWS OF THIS SEAT. 6 by the template 'for every input the law returns true; each argument reads behind the call as it read before'; 0 by the template 'total and deterministic' (their statements: YtlhgmlebjnkonaaTotals.lean).
  GIVEN WITH THE SEED: the statements are not yours to turn. If you find one false, say at which input.
  Laid BY PROGRAM, IN A SANDBOX (cutbox-rows.mjs): the forced cells as the released guide's own fill.sh prints them over the translation 1f0c4c5b1076a57e… (all of the seat's roots in one cut). By AI agents, Wed Nov 11 2026. No macro, syntax, notation, axiom, sorry.
-/
import Derived.Test.YtlhgmlebjnkonaaChecked
import GoSem.Claim
import GoSem.ClaimJoined
import GoSem.ClaimMapViews
import Derived.JoinedTies
import Derived.KernelRfl
namespace Go.Proofs.Ytlhgmlebjnkonaa
/- THE CELL 'sum', in the pinned program and in every row, IS THE sha256 OF THE DUMP (.gsa) THAT YtlhgmlebjnkonaaProg.lean LOADS. Nothing in Lean hashes anything: it is a label: what it is worth is what the hold of that sum in a sandbox is worth. -/
noncomputable def Try.pinned : Pinned := { name := "ytlhgmlebjnkonaa", sum := "1f0c4c5b1076a57ead06272feb3cf961be5e0ae4bea90671c0f91053f3eb732b", checked := Try.checked }
namespace Rows
def none {H : Type} : Left H := { results := [], args := [] }

/-- 'cobweblaw05.CrossTells': WHATEVER THE INPUT: true; the input reads as it did. -/
def crossTellsSpec : ChangeSpec := { name := "crossTells", fn := fun _ => fun
  | [d] => { results := [.lit (.bool true)], args := [d] }
  | _ => none }
def crossTellsRow : OpenClaim := { program := "ytlhgmlebjnkonaa", sum := "1f0c4c5b1076a57ead06272feb3cf961be5e0ae4bea90671c0f91053f3eb732b", func := "cobweb/cobweblaw05.CrossTells", spec := "crossTells", inPlace := ["math/bits.Sub64", "math/bits.Add64"], named := ["math/bits.divideError", "math/bits.overflowError"], apart := false }
def CrossTellsSaid : Prop := crossTellsRow.holds Try.pinned (OpenSpec.ofChange crossTellsSpec)

/-- ITS FALSE NEIGHBOUR: 'it returns false'. Refute it at one input. -/
def crossTellsWrong : ChangeSpec := { name := "crossTells", fn := fun _ => fun
  | [d] => { results := [.lit (.bool false)], args := [d] }
  | _ => none }
def CrossTellsWrongFalsely : Prop := crossTellsRow.holds Try.pinned (OpenSpec.ofChange crossTellsWrong)

/-- 'cobweblaw05.CrossTurns': WHATEVER THE INPUT: true; the input reads as it did. -/
def crossTurnsSpec : ChangeSpec := { name := "crossTurns", fn := fun _ => fun
  | [d] => { results := [.lit (.bool true)], args := [d] }
  | _ => none }
def crossTurnsRow : OpenClaim := { program := "ytlhgmlebjnkonaa", sum := "1f0c4c5b1076a57ead06272feb3cf961be5e0ae4bea90671c0f91053f3eb732b", func := "cobweb/cobweblaw05.CrossTurns", spec := "crossTurns", inPlace := ["math/bits.Sub64", "math/bits.Add64"], named := ["math/bits.divideError", "math/bits.overflowError"], apart := false }
def CrossTurnsSaid : Prop := crossTurnsRow.holds Try.pinned (OpenSpec.ofChange crossTurnsSpec)

/-- ITS FALSE NEIGHBOUR: 'it returns false'. Refute it at one input. -/
def crossTurnsWrong : ChangeSpec := { name := "crossTurns", fn := fun _ => fun
  | [d] => { results := [.lit (.bool false)], args := [d] }
  | _ => none }
def CrossTurnsWrongFalsely : Prop := crossTurnsRow.holds Try.pinned (OpenSpec.ofChange crossTurnsWrong)

/-- 'cobweblaw05.CrossOn': WHATEVER THE INPUT: true; the input reads as it did. -/
def crossOnSpec : ChangeSpec := { name := "crossOn", fn := fun _ => fun
  | [d] => { results := [.lit (.bool true)], args := [d] }
  | _ => none }
def crossOnRow : OpenClaim := { program := "ytlhgmlebjnkonaa", sum := "1f0c4c5b1076a57ead06272feb3cf961be5e0ae4bea90671c0f91053f3eb732b", func := "cobweb/cobweblaw05.CrossOn", spec := "crossOn", inPlace := ["math/bits.Sub64", "math/bits.Add64"], named := ["math/bits.divideError", "math/bits.overflowError"], apart := false }
def CrossOnSaid : Prop := crossOnRow.holds Try.pinned (OpenSpec.ofChange crossOnSpec)

/-- ITS FALSE NEIGHBOUR: 'it returns false'. Refute it at one input. -/
def crossOnWrong : ChangeSpec := { name := "crossOn", fn := fun _ => fun
  | [d] => { results := [.lit (.bool false)], args := [d] }
  | _ => none }
def CrossOnWrongFalsely : Prop := crossOnRow.holds Try.pinned (OpenSpec.ofChange crossOnWrong)

/-- 'cobweblaw05.CrossAlong': WHATEVER THE INPUT: true; the input reads as it did. -/
def crossAlongSpec : ChangeSpec := { name := "crossAlong", fn := fun _ => fun
  | [d] => { results := [.lit (.bool true)], args := [d] }
  | _ => none }
def crossAlongRow : OpenClaim := { program := "ytlhgmlebjnkonaa", sum := "1f0c4c5b1076a57ead06272feb3cf961be5e0ae4bea90671c0f91053f3eb732b", func := "cobweb/cobweblaw05.CrossAlong", spec := "crossAlong", inPlace := ["math/bits.Sub64", "math/bits.Add64"], named := ["math/bits.divideError", "math/bits.overflowError"], apart := false }
def CrossAlongSaid : Prop := crossAlongRow.holds Try.pinned (OpenSpec.ofChange crossAlongSpec)

/-- ITS FALSE NEIGHBOUR: 'it returns false'. Refute it at one input. -/
def crossAlongWrong : ChangeSpec := { name := "crossAlong", fn := fun _ => fun
  | [d] => { results := [.lit (.bool false)], args := [d] }
  | _ => none }
def CrossAlongWrongFalsely : Prop := crossAlongRow.holds Try.pinned (OpenSpec.ofChange crossAlongWrong)

/-- 'cobweblaw05.CrossPlaces': WHATEVER THE INPUT: true; the input reads as it did. -/
def crossPlacesSpec : ChangeSpec := { name := "crossPlaces", fn := fun _ => fun
  | [d] => { results := [.lit (.bool true)], args := [d] }
  | _ => none }
def crossPlacesRow : OpenClaim := { program := "ytlhgmlebjnkonaa", sum := "1f0c4c5b1076a57ead06272feb3cf961be5e0ae4bea90671c0f91053f3eb732b", func := "cobweb/cobweblaw05.CrossPlaces", spec := "crossPlaces", inPlace := ["math/bits.Sub64", "math/bits.Add64"], named := ["math/bits.divideError", "math/bits.overflowError"], apart := false }
def CrossPlacesSaid : Prop := crossPlacesRow.holds Try.pinned (OpenSpec.ofChange crossPlacesSpec)

/-- ITS FALSE NEIGHBOUR: 'it returns false'. Refute it at one input. -/
def crossPlacesWrong : ChangeSpec := { name := "crossPlaces", fn := fun _ => fun
  | [d] => { results := [.lit (.bool false)], args := [d] }
  | _ => none }
def CrossPlacesWrongFalsely : Prop := crossPlacesRow.holds Try.pinned (OpenSpec.ofChange crossPlacesWrong)

/-- 'cobweblaw05.CrossSelf': WHATEVER THE INPUT: true; the input reads as it did. -/
def crossSelfSpec : ChangeSpec := { name := "crossSelf", fn := fun _ => fun
  | [d1, d2] => { results := [.lit (.bool true)], args := [d1, d2] }
  | _ => none }
def crossSelfRow : OpenClaim := { program := "ytlhgmlebjnkonaa", sum := "1f0c4c5b1076a57ead06272feb3cf961be5e0ae4bea90671c0f91053f3eb732b", func := "cobweb/cobweblaw05.CrossSelf", spec := "crossSelf", inPlace := ["math/bits.Sub64", "math/bits.Add64"], named := ["math/bits.divideError", "math/bits.overflowError"], apart := false }
def CrossSelfSaid : Prop := crossSelfRow.holds Try.pinned (OpenSpec.ofChange crossSelfSpec)

/-- ITS FALSE NEIGHBOUR: 'it returns false'. Refute it at one input. -/
def crossSelfWrong : ChangeSpec := { name := "crossSelf", fn := fun _ => fun
  | [d1, d2] => { results := [.lit (.bool false)], args := [d1, d2] }
  | _ => none }
def CrossSelfWrongFalsely : Prop := crossSelfRow.holds Try.pinned (OpenSpec.ofChange crossSelfWrong)

/- THE SECOND FORM. 'bulk': how many values and letters a reading holds, each counted each time it is reached (what is shared counts as often as it is met; a slice's spare places count too). A statement '..UptoSaid' is the law's where the arguments, and the package variables that the reading takes, are together of bulk at most 1048576: NARROWER than '..Said'. Prove '..Said' where nothing that the law and all that it calls make is longer than what came in: it says more and counts as full. Else prove '..UptoSaid'. A law counts once. -/
mutual
def uptoBulk {H : Type} : DataW H → Nat
  | .lit (.string bytes) => bytes.length + 1
  | .lit _ => 1
  | .nil => 1
  | .ptr d => uptoBulk d + 1
  | .slice elems spare => uptoBulkAll elems + uptoBulkAll spare + 1
  | .agg parts => uptoBulkAll parts + 1
  | .iface _ d => uptoBulk d + 1
  | .map entries => uptoBulkEntries entries + 1
  | .held _ => 1
def uptoBulkAll {H : Type} : List (DataW H) → Nat
  | [] => 0
  | d :: r => uptoBulk d + uptoBulkAll r
def uptoBulkEntries {H : Type} : List (Lit × DataW H) → Nat
  | [] => 0
  | x :: r => uptoBulkEntry x + uptoBulkEntries r
def uptoBulkEntry {H : Type} : Lit × DataW H → Nat
  | (.string bytes, d) => bytes.length + uptoBulk d + 1
  | (_, d) => uptoBulk d + 1
 end
def uptoSmall : (H : Type) → List (DataW H) → Bool := fun _ ds => decide (uptoBulkAll ds ≤ 1048576)
def OpenSpec.upto (s : _root_.Go.ChangeSpec) : _root_.Go.OpenSpec := { _root_.Go.OpenSpec.ofChange s with cond := some uptoSmall }

/-- 'cobweblaw05.CrossTells', WHERE WHAT IT READS IS OF BULK AT MOST 1048576: true; the input reads as it did. -/
def crossTellsUptoRow : OpenClaim := { program := "ytlhgmlebjnkonaa", sum := "1f0c4c5b1076a57ead06272feb3cf961be5e0ae4bea90671c0f91053f3eb732b", func := "cobweb/cobweblaw05.CrossTells", spec := "crossTells", inPlace := ["math/bits.Sub64", "math/bits.Add64"], named := ["math/bits.divideError", "math/bits.overflowError"], apart := false, narrowed := true }
def CrossTellsUptoSaid : Prop := crossTellsUptoRow.holds Try.pinned (OpenSpec.upto crossTellsSpec)

/-- 'cobweblaw05.CrossTurns', WHERE WHAT IT READS IS OF BULK AT MOST 1048576: true; the input reads as it did. -/
def crossTurnsUptoRow : OpenClaim := { program := "ytlhgmlebjnkonaa", sum := "1f0c4c5b1076a57ead06272feb3cf961be5e0ae4bea90671c0f91053f3eb732b", func := "cobweb/cobweblaw05.CrossTurns", spec := "crossTurns", inPlace := ["math/bits.Sub64", "math/bits.Add64"], named := ["math/bits.divideError", "math/bits.overflowError"], apart := false, narrowed := true }
def CrossTurnsUptoSaid : Prop := crossTurnsUptoRow.holds Try.pinned (OpenSpec.upto crossTurnsSpec)

/-- 'cobweblaw05.CrossOn', WHERE WHAT IT READS IS OF BULK AT MOST 1048576: true; the input reads as it did. -/
def crossOnUptoRow : OpenClaim := { program := "ytlhgmlebjnkonaa", sum := "1f0c4c5b1076a57ead06272feb3cf961be5e0ae4bea90671c0f91053f3eb732b", func := "cobweb/cobweblaw05.CrossOn", spec := "crossOn", inPlace := ["math/bits.Sub64", "math/bits.Add64"], named := ["math/bits.divideError", "math/bits.overflowError"], apart := false, narrowed := true }
def CrossOnUptoSaid : Prop := crossOnUptoRow.holds Try.pinned (OpenSpec.upto crossOnSpec)

/-- 'cobweblaw05.CrossAlong', WHERE WHAT IT READS IS OF BULK AT MOST 1048576: true; the input reads as it did. -/
def crossAlongUptoRow : OpenClaim := { program := "ytlhgmlebjnkonaa", sum := "1f0c4c5b1076a57ead06272feb3cf961be5e0ae4bea90671c0f91053f3eb732b", func := "cobweb/cobweblaw05.CrossAlong", spec := "crossAlong", inPlace := ["math/bits.Sub64", "math/bits.Add64"], named := ["math/bits.divideError", "math/bits.overflowError"], apart := false, narrowed := true }
def CrossAlongUptoSaid : Prop := crossAlongUptoRow.holds Try.pinned (OpenSpec.upto crossAlongSpec)

/-- 'cobweblaw05.CrossPlaces', WHERE WHAT IT READS IS OF BULK AT MOST 1048576: true; the input reads as it did. -/
def crossPlacesUptoRow : OpenClaim := { program := "ytlhgmlebjnkonaa", sum := "1f0c4c5b1076a57ead06272feb3cf961be5e0ae4bea90671c0f91053f3eb732b", func := "cobweb/cobweblaw05.CrossPlaces", spec := "crossPlaces", inPlace := ["math/bits.Sub64", "math/bits.Add64"], named := ["math/bits.divideError", "math/bits.overflowError"], apart := false, narrowed := true }
def CrossPlacesUptoSaid : Prop := crossPlacesUptoRow.holds Try.pinned (OpenSpec.upto crossPlacesSpec)

/-- 'cobweblaw05.CrossSelf', WHERE WHAT IT READS IS OF BULK AT MOST 1048576: true; the input reads as it did. -/
def crossSelfUptoRow : OpenClaim := { program := "ytlhgmlebjnkonaa", sum := "1f0c4c5b1076a57ead06272feb3cf961be5e0ae4bea90671c0f91053f3eb732b", func := "cobweb/cobweblaw05.CrossSelf", spec := "crossSelf", inPlace := ["math/bits.Sub64", "math/bits.Add64"], named := ["math/bits.divideError", "math/bits.overflowError"], apart := false, narrowed := true }
def CrossSelfUptoSaid : Prop := crossSelfUptoRow.holds Try.pinned (OpenSpec.upto crossSelfSpec)

end Rows
end Go.Proofs.Ytlhgmlebjnkonaa
