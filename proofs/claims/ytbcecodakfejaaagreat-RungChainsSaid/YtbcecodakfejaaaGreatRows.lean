/-
  No cell of these rows narrows 'for every input' (looked for: loops, veiled, ifaces, maps, wideKeys, modest, calm, conditions, laid).
  DERIVED. THE GIVEN ROWS OF THIS SEAT. 4 by the template 'for every input the law returns true; each argument reads behind the call as it read before'; 0 by the template 'total and deterministic' (their statements: YtbcecodakfejaaaGreatTotals.lean).
  GIVEN WITH THE SEED: the statements are not yours to turn. If you find one false, say at which input.
  Laid BY PROGRAM, IN A SANDBOX (cutbox-rows.mjs): the forced cells as the released guide's own fill.sh prints them over the translation bafa61be0f873e9d… (all of the seat's roots in one cut). By AI agents, Wed Nov 11 2026. No macro, syntax, notation, axiom, sorry.
-/
import Derived.Test.YtbcecodakfejaaaGreatChecked
import GoSem.Claim
import GoSem.ClaimJoined
import GoSem.ClaimMapViews
import Derived.JoinedTies
import Derived.KernelRfl
namespace Go.Proofs.YtbcecodakfejaaaGreat
/- THE CELL 'sum', in the pinned program and in every row, IS THE sha256 OF THE DUMP (.gsa) THAT YtbcecodakfejaaaGreatProg.lean LOADS. Nothing in Lean hashes anything: it is a label: what it is worth is what the hold of that sum in a sandbox is worth. -/
noncomputable def Tryz.pinned : Pinned := { name := "ytbcecodakfejaaagreat", sum := "bafa61be0f873e9df1cad604c48ca6a86e06322e81ba4a7740d51a71d003ca07", checked := Tryz.checked }
namespace Rows
def none {H : Type} : Left H := { results := [], args := [] }

/-- 'cobweblaw12.RungApart': WHATEVER THE INPUT: true; the input reads as it did. -/
def rungApartSpec : ChangeSpec := { name := "rungApart", fn := fun _ => fun
  | [d1, d2, d3] => { results := [.lit (.bool true)], args := [d1, d2, d3] }
  | _ => none }
def rungApartRow : OpenClaim := { program := "ytbcecodakfejaaagreat", sum := "bafa61be0f873e9df1cad604c48ca6a86e06322e81ba4a7740d51a71d003ca07", func := "cobweb/cobweblaw12.RungApart", spec := "rungApart", inPlace := ["slices.overlaps[cobweb/near.Entry[int]]", "math/bits.Sub64", "math/bits.Add64"], unfollowed := true, recurses := true, named := ["math/bits.divideError", "math/bits.overflowError"], apart := false }
def RungApartSaid : Prop := rungApartRow.holds Tryz.pinned (OpenSpec.ofChange rungApartSpec)

/-- ITS FALSE NEIGHBOUR: 'it returns false'. Refute it at one input. -/
def rungApartWrong : ChangeSpec := { name := "rungApart", fn := fun _ => fun
  | [d1, d2, d3] => { results := [.lit (.bool false)], args := [d1, d2, d3] }
  | _ => none }
def RungApartWrongFalsely : Prop := rungApartRow.holds Tryz.pinned (OpenSpec.ofChange rungApartWrong)

/-- 'cobweblaw12.RungChains': WHATEVER THE INPUT: true; the input reads as it did. -/
def rungChainsSpec : ChangeSpec := { name := "rungChains", fn := fun _ => fun
  | [d1, d2, d3] => { results := [.lit (.bool true)], args := [d1, d2, d3] }
  | _ => none }
def rungChainsRow : OpenClaim := { program := "ytbcecodakfejaaagreat", sum := "bafa61be0f873e9df1cad604c48ca6a86e06322e81ba4a7740d51a71d003ca07", func := "cobweb/cobweblaw12.RungChains", spec := "rungChains", inPlace := ["slices.overlaps[cobweb/near.Entry[int]]", "math/bits.Sub64", "math/bits.Add64"], unfollowed := true, recurses := true, named := ["math/bits.divideError", "math/bits.overflowError"], apart := false }
def RungChainsSaid : Prop := rungChainsRow.holds Tryz.pinned (OpenSpec.ofChange rungChainsSpec)

/-- ITS FALSE NEIGHBOUR: 'it returns false'. Refute it at one input. -/
def rungChainsWrong : ChangeSpec := { name := "rungChains", fn := fun _ => fun
  | [d1, d2, d3] => { results := [.lit (.bool false)], args := [d1, d2, d3] }
  | _ => none }
def RungChainsWrongFalsely : Prop := rungChainsRow.holds Tryz.pinned (OpenSpec.ofChange rungChainsWrong)

/-- 'cobweblaw12.RungNoded': WHATEVER THE INPUT: true; the input reads as it did. -/
def rungNodedSpec : ChangeSpec := { name := "rungNoded", fn := fun _ => fun
  | [d1, d2, d3] => { results := [.lit (.bool true)], args := [d1, d2, d3] }
  | _ => none }
def rungNodedRow : OpenClaim := { program := "ytbcecodakfejaaagreat", sum := "bafa61be0f873e9df1cad604c48ca6a86e06322e81ba4a7740d51a71d003ca07", func := "cobweb/cobweblaw12.RungNoded", spec := "rungNoded", inPlace := ["slices.overlaps[cobweb/near.Entry[int]]", "math/bits.Sub64", "math/bits.Add64"], unfollowed := true, recurses := true, named := ["math/bits.divideError", "math/bits.overflowError"], apart := false }
def RungNodedSaid : Prop := rungNodedRow.holds Tryz.pinned (OpenSpec.ofChange rungNodedSpec)

/-- ITS FALSE NEIGHBOUR: 'it returns false'. Refute it at one input. -/
def rungNodedWrong : ChangeSpec := { name := "rungNoded", fn := fun _ => fun
  | [d1, d2, d3] => { results := [.lit (.bool false)], args := [d1, d2, d3] }
  | _ => none }
def RungNodedWrongFalsely : Prop := rungNodedRow.holds Tryz.pinned (OpenSpec.ofChange rungNodedWrong)

/-- 'cobweblaw12.RungKeeps': WHATEVER THE INPUT: true; the input reads as it did. -/
def rungKeepsSpec : ChangeSpec := { name := "rungKeeps", fn := fun _ => fun
  | [d1, d2] => { results := [.lit (.bool true)], args := [d1, d2] }
  | _ => none }
def rungKeepsRow : OpenClaim := { program := "ytbcecodakfejaaagreat", sum := "bafa61be0f873e9df1cad604c48ca6a86e06322e81ba4a7740d51a71d003ca07", func := "cobweb/cobweblaw12.RungKeeps", spec := "rungKeeps", inPlace := ["slices.overlaps[cobweb/near.Entry[int]]", "math/bits.Sub64", "math/bits.Add64"], unfollowed := true, recurses := true, named := ["math/bits.divideError", "math/bits.overflowError"], apart := false }
def RungKeepsSaid : Prop := rungKeepsRow.holds Tryz.pinned (OpenSpec.ofChange rungKeepsSpec)

/-- ITS FALSE NEIGHBOUR: 'it returns false'. Refute it at one input. -/
def rungKeepsWrong : ChangeSpec := { name := "rungKeeps", fn := fun _ => fun
  | [d1, d2] => { results := [.lit (.bool false)], args := [d1, d2] }
  | _ => none }
def RungKeepsWrongFalsely : Prop := rungKeepsRow.holds Tryz.pinned (OpenSpec.ofChange rungKeepsWrong)

/- THE SECOND FORM. 'bulk': how many values and letters a reading holds, each counted each time it is reached (what is shared counts as often as it is met; a slice's spare places count too). A statement '..UptoSaid' is the law's where the arguments, and the package variables that the reading takes, are together of bulk at most 1048576: NARROWER than '..Said'. Prove '..Said' where nothing that the law and all that it calls make is longer than what came in: it says more and counts as full. Else prove '..UptoSaid'. A law counts once. -/
mutual
def uptoBulk {H : Type} : DataW H → Nat
  | .lit (.string bytes) => bytes.length + 1
  | .lit _ => 1
  | .nil => 1
  | .ptr d => uptoBulk d + 1
  | .slice elems spare => uptoBulkAll elems + uptoBulkAll spare + 1
  | .agg parts => uptoBulkAll parts + 1
  | .iface _ d => uptoBulk d + 1
  | .map entries => uptoBulkEntries entries + 1
  | .held _ => 1
def uptoBulkAll {H : Type} : List (DataW H) → Nat
  | [] => 0
  | d :: r => uptoBulk d + uptoBulkAll r
def uptoBulkEntries {H : Type} : List (Lit × DataW H) → Nat
  | [] => 0
  | x :: r => uptoBulkEntry x + uptoBulkEntries r
def uptoBulkEntry {H : Type} : Lit × DataW H → Nat
  | (.string bytes, d) => bytes.length + uptoBulk d + 1
  | (_, d) => uptoBulk d + 1
 end
def uptoSmall : (H : Type) → List (DataW H) → Bool := fun _ ds => decide (uptoBulkAll ds ≤ 1048576)
def OpenSpec.upto (s : _root_.Go.ChangeSpec) : _root_.Go.OpenSpec := { _root_.Go.OpenSpec.ofChange s with cond := some uptoSmall }

/-- 'cobweblaw12.RungApart', WHERE WHAT IT READS IS OF BULK AT MOST 1048576: true; the input reads as it did. -/
def rungApartUptoRow : OpenClaim := { program := "ytbcecodakfejaaagreat", sum := "bafa61be0f873e9df1cad604c48ca6a86e06322e81ba4a7740d51a71d003ca07", func := "cobweb/cobweblaw12.RungApart", spec := "rungApart", inPlace := ["slices.overlaps[cobweb/near.Entry[int]]", "math/bits.Sub64", "math/bits.Add64"], unfollowed := true, recurses := true, named := ["math/bits.divideError", "math/bits.overflowError"], apart := false, narrowed := true }
def RungApartUptoSaid : Prop := rungApartUptoRow.holds Tryz.pinned (OpenSpec.upto rungApartSpec)

/-- 'cobweblaw12.RungChains', WHERE WHAT IT READS IS OF BULK AT MOST 1048576: true; the input reads as it did. -/
def rungChainsUptoRow : OpenClaim := { program := "ytbcecodakfejaaagreat", sum := "bafa61be0f873e9df1cad604c48ca6a86e06322e81ba4a7740d51a71d003ca07", func := "cobweb/cobweblaw12.RungChains", spec := "rungChains", inPlace := ["slices.overlaps[cobweb/near.Entry[int]]", "math/bits.Sub64", "math/bits.Add64"], unfollowed := true, recurses := true, named := ["math/bits.divideError", "math/bits.overflowError"], apart := false, narrowed := true }
def RungChainsUptoSaid : Prop := rungChainsUptoRow.holds Tryz.pinned (OpenSpec.upto rungChainsSpec)

/-- 'cobweblaw12.RungNoded', WHERE WHAT IT READS IS OF BULK AT MOST 1048576: true; the input reads as it did. -/
def rungNodedUptoRow : OpenClaim := { program := "ytbcecodakfejaaagreat", sum := "bafa61be0f873e9df1cad604c48ca6a86e06322e81ba4a7740d51a71d003ca07", func := "cobweb/cobweblaw12.RungNoded", spec := "rungNoded", inPlace := ["slices.overlaps[cobweb/near.Entry[int]]", "math/bits.Sub64", "math/bits.Add64"], unfollowed := true, recurses := true, named := ["math/bits.divideError", "math/bits.overflowError"], apart := false, narrowed := true }
def RungNodedUptoSaid : Prop := rungNodedUptoRow.holds Tryz.pinned (OpenSpec.upto rungNodedSpec)

/-- 'cobweblaw12.RungKeeps', WHERE WHAT IT READS IS OF BULK AT MOST 1048576: true; the input reads as it did. -/
def rungKeepsUptoRow : OpenClaim := { program := "ytbcecodakfejaaagreat", sum := "bafa61be0f873e9df1cad604c48ca6a86e06322e81ba4a7740d51a71d003ca07", func := "cobweb/cobweblaw12.RungKeeps", spec := "rungKeeps", inPlace := ["slices.overlaps[cobweb/near.Entry[int]]", "math/bits.Sub64", "math/bits.Add64"], unfollowed := true, recurses := true, named := ["math/bits.divideError", "math/bits.overflowError"], apart := false, narrowed := true }
def RungKeepsUptoSaid : Prop := rungKeepsUptoRow.holds Tryz.pinned (OpenSpec.upto rungKeepsSpec)

end Rows
end Go.Proofs.YtbcecodakfejaaaGreat
