/-
  No cell of these rows narrows 'for every input' (looked for: loops, veiled, ifaces, maps, wideKeys, modest, calm, conditions, laid).
  DERIVED. THE GIVEN ROWS OF THIS SEAT. 6 by the template 'for every input the law returns true; each argument reads behind the call as it read before'; 0 by the template 'total and deterministic' (their statements: YtcplkjnmfdinaaaTotals.lean).
  GIVEN WITH THE SEED: the statements are not yours to turn. If you find one false, say at which input.
  Laid BY PROGRAM, IN A SANDBOX (cutbox-rows.mjs): the forced cells as the released guide's own fill.sh prints them over the translation 5c9ea38545c9231b… (all of the seat's roots in one cut). By AI agents, Wed Nov 11 2026. No macro, syntax, notation, axiom, sorry.
-/
import Derived.Test.YtcplkjnmfdinaaaChecked
import GoSem.Claim
import GoSem.ClaimJoined
import GoSem.ClaimMapViews
import Derived.JoinedTies
import Derived.KernelRfl
namespace Go.Proofs.Ytcplkjnmfdinaaa
/- THE CELL 'sum', in the pinned program and in every row, IS THE sha256 OF THE DUMP (.gsa) THAT YtcplkjnmfdinaaaProg.lean LOADS. Nothing in Lean hashes anything: it is a label: what it is worth is what the hold of that sum in a sandbox is worth. -/
noncomputable def Try.pinned : Pinned := { name := "ytcplkjnmfdinaaa", sum := "5c9ea38545c9231bc1b6b97f502ba69ff4f09ad6100e97d8117e270be397c74e", checked := Try.checked }
namespace Rows
def none {H : Type} : Left H := { results := [], args := [] }

/-- 'cobweblaw07.OrderSorts': WHATEVER THE INPUT: true; the input reads as it did. -/
def orderSortsSpec : ChangeSpec := { name := "orderSorts", fn := fun _ => fun
  | [d] => { results := [.lit (.bool true)], args := [d] }
  | _ => none }
def orderSortsRow : OpenClaim := { program := "ytcplkjnmfdinaaa", sum := "5c9ea38545c9231bc1b6b97f502ba69ff4f09ad6100e97d8117e270be397c74e", func := "cobweb/cobweblaw07.OrderSorts", spec := "orderSorts", unfollowed := true, recurses := true, apart := false }
def OrderSortsSaid : Prop := orderSortsRow.holds Try.pinned (OpenSpec.ofChange orderSortsSpec)

/-- ITS FALSE NEIGHBOUR: 'it returns false'. Refute it at one input. -/
def orderSortsWrong : ChangeSpec := { name := "orderSorts", fn := fun _ => fun
  | [d] => { results := [.lit (.bool false)], args := [d] }
  | _ => none }
def OrderSortsWrongFalsely : Prop := orderSortsRow.holds Try.pinned (OpenSpec.ofChange orderSortsWrong)

/-- 'cobweblaw07.OrderMerges': WHATEVER THE INPUT: true; the input reads as it did. -/
def orderMergesSpec : ChangeSpec := { name := "orderMerges", fn := fun _ => fun
  | [d1, d2] => { results := [.lit (.bool true)], args := [d1, d2] }
  | _ => none }
def orderMergesRow : OpenClaim := { program := "ytcplkjnmfdinaaa", sum := "5c9ea38545c9231bc1b6b97f502ba69ff4f09ad6100e97d8117e270be397c74e", func := "cobweb/cobweblaw07.OrderMerges", spec := "orderMerges", unfollowed := true, recurses := true, apart := false }
def OrderMergesSaid : Prop := orderMergesRow.holds Try.pinned (OpenSpec.ofChange orderMergesSpec)

/-- ITS FALSE NEIGHBOUR: 'it returns false'. Refute it at one input. -/
def orderMergesWrong : ChangeSpec := { name := "orderMerges", fn := fun _ => fun
  | [d1, d2] => { results := [.lit (.bool false)], args := [d1, d2] }
  | _ => none }
def OrderMergesWrongFalsely : Prop := orderMergesRow.holds Try.pinned (OpenSpec.ofChange orderMergesWrong)

/-- 'cobweblaw07.OrderUnique': WHATEVER THE INPUT: true; the input reads as it did. -/
def orderUniqueSpec : ChangeSpec := { name := "orderUnique", fn := fun _ => fun
  | [d] => { results := [.lit (.bool true)], args := [d] }
  | _ => none }
def orderUniqueRow : OpenClaim := { program := "ytcplkjnmfdinaaa", sum := "5c9ea38545c9231bc1b6b97f502ba69ff4f09ad6100e97d8117e270be397c74e", func := "cobweb/cobweblaw07.OrderUnique", spec := "orderUnique", unfollowed := true, recurses := true, apart := false }
def OrderUniqueSaid : Prop := orderUniqueRow.holds Try.pinned (OpenSpec.ofChange orderUniqueSpec)

/-- ITS FALSE NEIGHBOUR: 'it returns false'. Refute it at one input. -/
def orderUniqueWrong : ChangeSpec := { name := "orderUnique", fn := fun _ => fun
  | [d] => { results := [.lit (.bool false)], args := [d] }
  | _ => none }
def OrderUniqueWrongFalsely : Prop := orderUniqueRow.holds Try.pinned (OpenSpec.ofChange orderUniqueWrong)

/-- 'cobweblaw07.OrderAlong': WHATEVER THE INPUT: true; the input reads as it did. -/
def orderAlongSpec : ChangeSpec := { name := "orderAlong", fn := fun _ => fun
  | [d1, d2, d3] => { results := [.lit (.bool true)], args := [d1, d2, d3] }
  | _ => none }
def orderAlongRow : OpenClaim := { program := "ytcplkjnmfdinaaa", sum := "5c9ea38545c9231bc1b6b97f502ba69ff4f09ad6100e97d8117e270be397c74e", func := "cobweb/cobweblaw07.OrderAlong", spec := "orderAlong", unfollowed := true, recurses := true, apart := false }
def OrderAlongSaid : Prop := orderAlongRow.holds Try.pinned (OpenSpec.ofChange orderAlongSpec)

/-- ITS FALSE NEIGHBOUR: 'it returns false'. Refute it at one input. -/
def orderAlongWrong : ChangeSpec := { name := "orderAlong", fn := fun _ => fun
  | [d1, d2, d3] => { results := [.lit (.bool false)], args := [d1, d2, d3] }
  | _ => none }
def OrderAlongWrongFalsely : Prop := orderAlongRow.holds Try.pinned (OpenSpec.ofChange orderAlongWrong)

/-- 'cobweblaw07.OrderMet': WHATEVER THE INPUT: true; the input reads as it did. -/
def orderMetSpec : ChangeSpec := { name := "orderMet", fn := fun _ => fun
  | [d1, d2, d3] => { results := [.lit (.bool true)], args := [d1, d2, d3] }
  | _ => none }
def orderMetRow : OpenClaim := { program := "ytcplkjnmfdinaaa", sum := "5c9ea38545c9231bc1b6b97f502ba69ff4f09ad6100e97d8117e270be397c74e", func := "cobweb/cobweblaw07.OrderMet", spec := "orderMet", unfollowed := true, recurses := true, apart := false }
def OrderMetSaid : Prop := orderMetRow.holds Try.pinned (OpenSpec.ofChange orderMetSpec)

/-- ITS FALSE NEIGHBOUR: 'it returns false'. Refute it at one input. -/
def orderMetWrong : ChangeSpec := { name := "orderMet", fn := fun _ => fun
  | [d1, d2, d3] => { results := [.lit (.bool false)], args := [d1, d2, d3] }
  | _ => none }
def OrderMetWrongFalsely : Prop := orderMetRow.holds Try.pinned (OpenSpec.ofChange orderMetWrong)

/-- 'cobweblaw07.OrderAgain': WHATEVER THE INPUT: true; the input reads as it did. -/
def orderAgainSpec : ChangeSpec := { name := "orderAgain", fn := fun _ => fun
  | [d1, d2] => { results := [.lit (.bool true)], args := [d1, d2] }
  | _ => none }
def orderAgainRow : OpenClaim := { program := "ytcplkjnmfdinaaa", sum := "5c9ea38545c9231bc1b6b97f502ba69ff4f09ad6100e97d8117e270be397c74e", func := "cobweb/cobweblaw07.OrderAgain", spec := "orderAgain", unfollowed := true, recurses := true, apart := false }
def OrderAgainSaid : Prop := orderAgainRow.holds Try.pinned (OpenSpec.ofChange orderAgainSpec)

/-- ITS FALSE NEIGHBOUR: 'it returns false'. Refute it at one input. -/
def orderAgainWrong : ChangeSpec := { name := "orderAgain", fn := fun _ => fun
  | [d1, d2] => { results := [.lit (.bool false)], args := [d1, d2] }
  | _ => none }
def OrderAgainWrongFalsely : Prop := orderAgainRow.holds Try.pinned (OpenSpec.ofChange orderAgainWrong)

/- THE SECOND FORM. 'bulk': how many values and letters a reading holds, each counted each time it is reached (what is shared counts as often as it is met; a slice's spare places count too). A statement '..UptoSaid' is the law's where the arguments, and the package variables that the reading takes, are together of bulk at most 1048576: NARROWER than '..Said'. Prove '..Said' where nothing that the law and all that it calls make is longer than what came in: it says more and counts as full. Else prove '..UptoSaid'. A law counts once. -/
mutual
def uptoBulk {H : Type} : DataW H → Nat
  | .lit (.string bytes) => bytes.length + 1
  | .lit _ => 1
  | .nil => 1
  | .ptr d => uptoBulk d + 1
  | .slice elems spare => uptoBulkAll elems + uptoBulkAll spare + 1
  | .agg parts => uptoBulkAll parts + 1
  | .iface _ d => uptoBulk d + 1
  | .map entries => uptoBulkEntries entries + 1
  | .held _ => 1
def uptoBulkAll {H : Type} : List (DataW H) → Nat
  | [] => 0
  | d :: r => uptoBulk d + uptoBulkAll r
def uptoBulkEntries {H : Type} : List (Lit × DataW H) → Nat
  | [] => 0
  | x :: r => uptoBulkEntry x + uptoBulkEntries r
def uptoBulkEntry {H : Type} : Lit × DataW H → Nat
  | (.string bytes, d) => bytes.length + uptoBulk d + 1
  | (_, d) => uptoBulk d + 1
 end
def uptoSmall : (H : Type) → List (DataW H) → Bool := fun _ ds => decide (uptoBulkAll ds ≤ 1048576)
def OpenSpec.upto (s : _root_.Go.ChangeSpec) : _root_.Go.OpenSpec := { _root_.Go.OpenSpec.ofChange s with cond := some uptoSmall }

/-- 'cobweblaw07.OrderSorts', WHERE WHAT IT READS IS OF BULK AT MOST 1048576: true; the input reads as it did. -/
def orderSortsUptoRow : OpenClaim := { program := "ytcplkjnmfdinaaa", sum := "5c9ea38545c9231bc1b6b97f502ba69ff4f09ad6100e97d8117e270be397c74e", func := "cobweb/cobweblaw07.OrderSorts", spec := "orderSorts", unfollowed := true, recurses := true, apart := false, narrowed := true }
def OrderSortsUptoSaid : Prop := orderSortsUptoRow.holds Try.pinned (OpenSpec.upto orderSortsSpec)

/-- 'cobweblaw07.OrderMerges', WHERE WHAT IT READS IS OF BULK AT MOST 1048576: true; the input reads as it did. -/
def orderMergesUptoRow : OpenClaim := { program := "ytcplkjnmfdinaaa", sum := "5c9ea38545c9231bc1b6b97f502ba69ff4f09ad6100e97d8117e270be397c74e", func := "cobweb/cobweblaw07.OrderMerges", spec := "orderMerges", unfollowed := true, recurses := true, apart := false, narrowed := true }
def OrderMergesUptoSaid : Prop := orderMergesUptoRow.holds Try.pinned (OpenSpec.upto orderMergesSpec)

/-- 'cobweblaw07.OrderUnique', WHERE WHAT IT READS IS OF BULK AT MOST 1048576: true; the input reads as it did. -/
def orderUniqueUptoRow : OpenClaim := { program := "ytcplkjnmfdinaaa", sum := "5c9ea38545c9231bc1b6b97f502ba69ff4f09ad6100e97d8117e270be397c74e", func := "cobweb/cobweblaw07.OrderUnique", spec := "orderUnique", unfollowed := true, recurses := true, apart := false, narrowed := true }
def OrderUniqueUptoSaid : Prop := orderUniqueUptoRow.holds Try.pinned (OpenSpec.upto orderUniqueSpec)

/-- 'cobweblaw07.OrderAlong', WHERE WHAT IT READS IS OF BULK AT MOST 1048576: true; the input reads as it did. -/
def orderAlongUptoRow : OpenClaim := { program := "ytcplkjnmfdinaaa", sum := "5c9ea38545c9231bc1b6b97f502ba69ff4f09ad6100e97d8117e270be397c74e", func := "cobweb/cobweblaw07.OrderAlong", spec := "orderAlong", unfollowed := true, recurses := true, apart := false, narrowed := true }
def OrderAlongUptoSaid : Prop := orderAlongUptoRow.holds Try.pinned (OpenSpec.upto orderAlongSpec)

/-- 'cobweblaw07.OrderMet', WHERE WHAT IT READS IS OF BULK AT MOST 1048576: true; the input reads as it did. -/
def orderMetUptoRow : OpenClaim := { program := "ytcplkjnmfdinaaa", sum := "5c9ea38545c9231bc1b6b97f502ba69ff4f09ad6100e97d8117e270be397c74e", func := "cobweb/cobweblaw07.OrderMet", spec := "orderMet", unfollowed := true, recurses := true, apart := false, narrowed := true }
def OrderMetUptoSaid : Prop := orderMetUptoRow.holds Try.pinned (OpenSpec.upto orderMetSpec)

/-- 'cobweblaw07.OrderAgain', WHERE WHAT IT READS IS OF BULK AT MOST 1048576: true; the input reads as it did. -/
def orderAgainUptoRow : OpenClaim := { program := "ytcplkjnmfdinaaa", sum := "5c9ea38545c9231bc1b6b97f502ba69ff4f09ad6100e97d8117e270be397c74e", func := "cobweb/cobweblaw07.OrderAgain", spec := "orderAgain", unfollowed := true, recurses := true, apart := false, narrowed := true }
def OrderAgainUptoSaid : Prop := orderAgainUptoRow.holds Try.pinned (OpenSpec.upto orderAgainSpec)

end Rows
end Go.Proofs.Ytcplkjnmfdinaaa
