/-
  No cell of these rows narrows 'for every input' (looked for: loops, veiled, ifaces, maps, wideKeys, modest, calm, conditions, laid).
  DERIVED. THE GIVEN ROWS OF THIS SEAT. 8 by the template 'for every input the law returns true; each argument reads behind the call as it read before'; 0 by the template 'total and deterministic' (their statements: YtfcehanpmbeegaaTotals.lean).
  GIVEN WITH THE SEED: the statements are not yours to turn. If you find one false, say at which input.
  Laid BY PROGRAM, IN A SANDBOX (cutbox-rows.mjs): the forced cells as the released guide's own fill.sh prints them over the translation 03d257e91caf0cf3… (all of the seat's roots in one cut). By AI agents, Wed Nov 11 2026. No macro, syntax, notation, axiom, sorry.
-/
import Derived.Test.YtfcehanpmbeegaaChecked
import GoSem.Claim
import GoSem.ClaimJoined
import GoSem.ClaimMapViews
import Derived.JoinedTies
import Derived.KernelRfl
namespace Go.Proofs.Ytfcehanpmbeegaa
/- THE CELL 'sum', in the pinned program and in every row, IS THE sha256 OF THE DUMP (.gsa) THAT YtfcehanpmbeegaaProg.lean LOADS. Nothing in Lean hashes anything: it is a label: what it is worth is what the hold of that sum in a sandbox is worth. -/
noncomputable def Try.pinned : Pinned := { name := "ytfcehanpmbeegaa", sum := "03d257e91caf0cf30f3f68733783ae154521a92d96a9d74fa1d50a05be9cbcfc", checked := Try.checked }
namespace Rows
def none {H : Type} : Left H := { results := [], args := [] }

/-- 'cobweblaw06.PixelMeets': WHATEVER THE INPUT: true; the input reads as it did. -/
def pixelMeetsSpec : ChangeSpec := { name := "pixelMeets", fn := fun _ => fun
  | [d1, d2, d3] => { results := [.lit (.bool true)], args := [d1, d2, d3] }
  | _ => none }
def pixelMeetsRow : OpenClaim := { program := "ytfcehanpmbeegaa", sum := "03d257e91caf0cf30f3f68733783ae154521a92d96a9d74fa1d50a05be9cbcfc", func := "cobweb/cobweblaw06.PixelMeets", spec := "pixelMeets", unfollowed := true, recurses := true, apart := false }
def PixelMeetsSaid : Prop := pixelMeetsRow.holds Try.pinned (OpenSpec.ofChange pixelMeetsSpec)

/-- ITS FALSE NEIGHBOUR: 'it returns false'. Refute it at one input. -/
def pixelMeetsWrong : ChangeSpec := { name := "pixelMeets", fn := fun _ => fun
  | [d1, d2, d3] => { results := [.lit (.bool false)], args := [d1, d2, d3] }
  | _ => none }
def PixelMeetsWrongFalsely : Prop := pixelMeetsRow.holds Try.pinned (OpenSpec.ofChange pixelMeetsWrong)

/-- 'cobweblaw06.PixelHits': WHATEVER THE INPUT: true; the input reads as it did. -/
def pixelHitsSpec : ChangeSpec := { name := "pixelHits", fn := fun _ => fun
  | [d1, d2, d3] => { results := [.lit (.bool true)], args := [d1, d2, d3] }
  | _ => none }
def pixelHitsRow : OpenClaim := { program := "ytfcehanpmbeegaa", sum := "03d257e91caf0cf30f3f68733783ae154521a92d96a9d74fa1d50a05be9cbcfc", func := "cobweb/cobweblaw06.PixelHits", spec := "pixelHits", unfollowed := true, recurses := true, apart := false }
def PixelHitsSaid : Prop := pixelHitsRow.holds Try.pinned (OpenSpec.ofChange pixelHitsSpec)

/-- ITS FALSE NEIGHBOUR: 'it returns false'. Refute it at one input. -/
def pixelHitsWrong : ChangeSpec := { name := "pixelHits", fn := fun _ => fun
  | [d1, d2, d3] => { results := [.lit (.bool false)], args := [d1, d2, d3] }
  | _ => none }
def PixelHitsWrongFalsely : Prop := pixelHitsRow.holds Try.pinned (OpenSpec.ofChange pixelHitsWrong)

/-- 'cobweblaw06.PixelNear': WHATEVER THE INPUT: true; the input reads as it did. -/
def pixelNearSpec : ChangeSpec := { name := "pixelNear", fn := fun _ => fun
  | [d1, d2, d3] => { results := [.lit (.bool true)], args := [d1, d2, d3] }
  | _ => none }
def pixelNearRow : OpenClaim := { program := "ytfcehanpmbeegaa", sum := "03d257e91caf0cf30f3f68733783ae154521a92d96a9d74fa1d50a05be9cbcfc", func := "cobweb/cobweblaw06.PixelNear", spec := "pixelNear", unfollowed := true, recurses := true, apart := false }
def PixelNearSaid : Prop := pixelNearRow.holds Try.pinned (OpenSpec.ofChange pixelNearSpec)

/-- ITS FALSE NEIGHBOUR: 'it returns false'. Refute it at one input. -/
def pixelNearWrong : ChangeSpec := { name := "pixelNear", fn := fun _ => fun
  | [d1, d2, d3] => { results := [.lit (.bool false)], args := [d1, d2, d3] }
  | _ => none }
def PixelNearWrongFalsely : Prop := pixelNearRow.holds Try.pinned (OpenSpec.ofChange pixelNearWrong)

/-- 'cobweblaw06.PixelTurned': WHATEVER THE INPUT: true; the input reads as it did. -/
def pixelTurnedSpec : ChangeSpec := { name := "pixelTurned", fn := fun _ => fun
  | [d1, d2] => { results := [.lit (.bool true)], args := [d1, d2] }
  | _ => none }
def pixelTurnedRow : OpenClaim := { program := "ytfcehanpmbeegaa", sum := "03d257e91caf0cf30f3f68733783ae154521a92d96a9d74fa1d50a05be9cbcfc", func := "cobweb/cobweblaw06.PixelTurned", spec := "pixelTurned", unfollowed := true, recurses := true, apart := false }
def PixelTurnedSaid : Prop := pixelTurnedRow.holds Try.pinned (OpenSpec.ofChange pixelTurnedSpec)

/-- ITS FALSE NEIGHBOUR: 'it returns false'. Refute it at one input. -/
def pixelTurnedWrong : ChangeSpec := { name := "pixelTurned", fn := fun _ => fun
  | [d1, d2] => { results := [.lit (.bool false)], args := [d1, d2] }
  | _ => none }
def PixelTurnedWrongFalsely : Prop := pixelTurnedRow.holds Try.pinned (OpenSpec.ofChange pixelTurnedWrong)

/-- 'cobweblaw06.PixelBetween': WHATEVER THE INPUT: true; the input reads as it did. -/
def pixelBetweenSpec : ChangeSpec := { name := "pixelBetween", fn := fun _ => fun
  | [d1, d2, d3] => { results := [.lit (.bool true)], args := [d1, d2, d3] }
  | _ => none }
def pixelBetweenRow : OpenClaim := { program := "ytfcehanpmbeegaa", sum := "03d257e91caf0cf30f3f68733783ae154521a92d96a9d74fa1d50a05be9cbcfc", func := "cobweb/cobweblaw06.PixelBetween", spec := "pixelBetween", unfollowed := true, recurses := true, apart := false }
def PixelBetweenSaid : Prop := pixelBetweenRow.holds Try.pinned (OpenSpec.ofChange pixelBetweenSpec)

/-- ITS FALSE NEIGHBOUR: 'it returns false'. Refute it at one input. -/
def pixelBetweenWrong : ChangeSpec := { name := "pixelBetween", fn := fun _ => fun
  | [d1, d2, d3] => { results := [.lit (.bool false)], args := [d1, d2, d3] }
  | _ => none }
def PixelBetweenWrongFalsely : Prop := pixelBetweenRow.holds Try.pinned (OpenSpec.ofChange pixelBetweenWrong)

/-- 'cobweblaw06.PixelTiles': WHATEVER THE INPUT: true; the input reads as it did. -/
def pixelTilesSpec : ChangeSpec := { name := "pixelTiles", fn := fun _ => fun
  | [d1, d2, d3] => { results := [.lit (.bool true)], args := [d1, d2, d3] }
  | _ => none }
def pixelTilesRow : OpenClaim := { program := "ytfcehanpmbeegaa", sum := "03d257e91caf0cf30f3f68733783ae154521a92d96a9d74fa1d50a05be9cbcfc", func := "cobweb/cobweblaw06.PixelTiles", spec := "pixelTiles", unfollowed := true, recurses := true, apart := false }
def PixelTilesSaid : Prop := pixelTilesRow.holds Try.pinned (OpenSpec.ofChange pixelTilesSpec)

/-- ITS FALSE NEIGHBOUR: 'it returns false'. Refute it at one input. -/
def pixelTilesWrong : ChangeSpec := { name := "pixelTiles", fn := fun _ => fun
  | [d1, d2, d3] => { results := [.lit (.bool false)], args := [d1, d2, d3] }
  | _ => none }
def PixelTilesWrongFalsely : Prop := pixelTilesRow.holds Try.pinned (OpenSpec.ofChange pixelTilesWrong)

/-- 'cobweblaw06.PixelMoved': WHATEVER THE INPUT: true; the input reads as it did. -/
def pixelMovedSpec : ChangeSpec := { name := "pixelMoved", fn := fun _ => fun
  | [d1, d2, d3] => { results := [.lit (.bool true)], args := [d1, d2, d3] }
  | _ => none }
def pixelMovedRow : OpenClaim := { program := "ytfcehanpmbeegaa", sum := "03d257e91caf0cf30f3f68733783ae154521a92d96a9d74fa1d50a05be9cbcfc", func := "cobweb/cobweblaw06.PixelMoved", spec := "pixelMoved", unfollowed := true, recurses := true, apart := false }
def PixelMovedSaid : Prop := pixelMovedRow.holds Try.pinned (OpenSpec.ofChange pixelMovedSpec)

/-- ITS FALSE NEIGHBOUR: 'it returns false'. Refute it at one input. -/
def pixelMovedWrong : ChangeSpec := { name := "pixelMoved", fn := fun _ => fun
  | [d1, d2, d3] => { results := [.lit (.bool false)], args := [d1, d2, d3] }
  | _ => none }
def PixelMovedWrongFalsely : Prop := pixelMovedRow.holds Try.pinned (OpenSpec.ofChange pixelMovedWrong)

/-- 'cobweblaw06.PixelHalves': WHATEVER THE INPUT: true; the input reads as it did. -/
def pixelHalvesSpec : ChangeSpec := { name := "pixelHalves", fn := fun _ => fun
  | [d1, d2, d3] => { results := [.lit (.bool true)], args := [d1, d2, d3] }
  | _ => none }
def pixelHalvesRow : OpenClaim := { program := "ytfcehanpmbeegaa", sum := "03d257e91caf0cf30f3f68733783ae154521a92d96a9d74fa1d50a05be9cbcfc", func := "cobweb/cobweblaw06.PixelHalves", spec := "pixelHalves", unfollowed := true, recurses := true, apart := false }
def PixelHalvesSaid : Prop := pixelHalvesRow.holds Try.pinned (OpenSpec.ofChange pixelHalvesSpec)

/-- ITS FALSE NEIGHBOUR: 'it returns false'. Refute it at one input. -/
def pixelHalvesWrong : ChangeSpec := { name := "pixelHalves", fn := fun _ => fun
  | [d1, d2, d3] => { results := [.lit (.bool false)], args := [d1, d2, d3] }
  | _ => none }
def PixelHalvesWrongFalsely : Prop := pixelHalvesRow.holds Try.pinned (OpenSpec.ofChange pixelHalvesWrong)

/- THE SECOND FORM. 'bulk': how many values and letters a reading holds, each counted each time it is reached (what is shared counts as often as it is met; a slice's spare places count too). A statement '..UptoSaid' is the law's where the arguments, and the package variables that the reading takes, are together of bulk at most 1048576: NARROWER than '..Said'. Prove '..Said' where nothing that the law and all that it calls make is longer than what came in: it says more and counts as full. Else prove '..UptoSaid'. A law counts once. -/
mutual
def uptoBulk {H : Type} : DataW H → Nat
  | .lit (.string bytes) => bytes.length + 1
  | .lit _ => 1
  | .nil => 1
  | .ptr d => uptoBulk d + 1
  | .slice elems spare => uptoBulkAll elems + uptoBulkAll spare + 1
  | .agg parts => uptoBulkAll parts + 1
  | .iface _ d => uptoBulk d + 1
  | .map entries => uptoBulkEntries entries + 1
  | .held _ => 1
def uptoBulkAll {H : Type} : List (DataW H) → Nat
  | [] => 0
  | d :: r => uptoBulk d + uptoBulkAll r
def uptoBulkEntries {H : Type} : List (Lit × DataW H) → Nat
  | [] => 0
  | x :: r => uptoBulkEntry x + uptoBulkEntries r
def uptoBulkEntry {H : Type} : Lit × DataW H → Nat
  | (.string bytes, d) => bytes.length + uptoBulk d + 1
  | (_, d) => uptoBulk d + 1
 end
def uptoSmall : (H : Type) → List (DataW H) → Bool := fun _ ds => decide (uptoBulkAll ds ≤ 1048576)
def OpenSpec.upto (s : _root_.Go.ChangeSpec) : _root_.Go.OpenSpec := { _root_.Go.OpenSpec.ofChange s with cond := some uptoSmall }

/-- 'cobweblaw06.PixelMeets', WHERE WHAT IT READS IS OF BULK AT MOST 1048576: true; the input reads as it did. -/
def pixelMeetsUptoRow : OpenClaim := { program := "ytfcehanpmbeegaa", sum := "03d257e91caf0cf30f3f68733783ae154521a92d96a9d74fa1d50a05be9cbcfc", func := "cobweb/cobweblaw06.PixelMeets", spec := "pixelMeets", unfollowed := true, recurses := true, apart := false, narrowed := true }
def PixelMeetsUptoSaid : Prop := pixelMeetsUptoRow.holds Try.pinned (OpenSpec.upto pixelMeetsSpec)

/-- 'cobweblaw06.PixelHits', WHERE WHAT IT READS IS OF BULK AT MOST 1048576: true; the input reads as it did. -/
def pixelHitsUptoRow : OpenClaim := { program := "ytfcehanpmbeegaa", sum := "03d257e91caf0cf30f3f68733783ae154521a92d96a9d74fa1d50a05be9cbcfc", func := "cobweb/cobweblaw06.PixelHits", spec := "pixelHits", unfollowed := true, recurses := true, apart := false, narrowed := true }
def PixelHitsUptoSaid : Prop := pixelHitsUptoRow.holds Try.pinned (OpenSpec.upto pixelHitsSpec)

/-- 'cobweblaw06.PixelNear', WHERE WHAT IT READS IS OF BULK AT MOST 1048576: true; the input reads as it did. -/
def pixelNearUptoRow : OpenClaim := { program := "ytfcehanpmbeegaa", sum := "03d257e91caf0cf30f3f68733783ae154521a92d96a9d74fa1d50a05be9cbcfc", func := "cobweb/cobweblaw06.PixelNear", spec := "pixelNear", unfollowed := true, recurses := true, apart := false, narrowed := true }
def PixelNearUptoSaid : Prop := pixelNearUptoRow.holds Try.pinned (OpenSpec.upto pixelNearSpec)

/-- 'cobweblaw06.PixelTurned', WHERE WHAT IT READS IS OF BULK AT MOST 1048576: true; the input reads as it did. -/
def pixelTurnedUptoRow : OpenClaim := { program := "ytfcehanpmbeegaa", sum := "03d257e91caf0cf30f3f68733783ae154521a92d96a9d74fa1d50a05be9cbcfc", func := "cobweb/cobweblaw06.PixelTurned", spec := "pixelTurned", unfollowed := true, recurses := true, apart := false, narrowed := true }
def PixelTurnedUptoSaid : Prop := pixelTurnedUptoRow.holds Try.pinned (OpenSpec.upto pixelTurnedSpec)

/-- 'cobweblaw06.PixelBetween', WHERE WHAT IT READS IS OF BULK AT MOST 1048576: true; the input reads as it did. -/
def pixelBetweenUptoRow : OpenClaim := { program := "ytfcehanpmbeegaa", sum := "03d257e91caf0cf30f3f68733783ae154521a92d96a9d74fa1d50a05be9cbcfc", func := "cobweb/cobweblaw06.PixelBetween", spec := "pixelBetween", unfollowed := true, recurses := true, apart := false, narrowed := true }
def PixelBetweenUptoSaid : Prop := pixelBetweenUptoRow.holds Try.pinned (OpenSpec.upto pixelBetweenSpec)

/-- 'cobweblaw06.PixelTiles', WHERE WHAT IT READS IS OF BULK AT MOST 1048576: true; the input reads as it did. -/
def pixelTilesUptoRow : OpenClaim := { program := "ytfcehanpmbeegaa", sum := "03d257e91caf0cf30f3f68733783ae154521a92d96a9d74fa1d50a05be9cbcfc", func := "cobweb/cobweblaw06.PixelTiles", spec := "pixelTiles", unfollowed := true, recurses := true, apart := false, narrowed := true }
def PixelTilesUptoSaid : Prop := pixelTilesUptoRow.holds Try.pinned (OpenSpec.upto pixelTilesSpec)

/-- 'cobweblaw06.PixelMoved', WHERE WHAT IT READS IS OF BULK AT MOST 1048576: true; the input reads as it did. -/
def pixelMovedUptoRow : OpenClaim := { program := "ytfcehanpmbeegaa", sum := "03d257e91caf0cf30f3f68733783ae154521a92d96a9d74fa1d50a05be9cbcfc", func := "cobweb/cobweblaw06.PixelMoved", spec := "pixelMoved", unfollowed := true, recurses := true, apart := false, narrowed := true }
def PixelMovedUptoSaid : Prop := pixelMovedUptoRow.holds Try.pinned (OpenSpec.upto pixelMovedSpec)

/-- 'cobweblaw06.PixelHalves', WHERE WHAT IT READS IS OF BULK AT MOST 1048576: true; the input reads as it did. -/
def pixelHalvesUptoRow : OpenClaim := { program := "ytfcehanpmbeegaa", sum := "03d257e91caf0cf30f3f68733783ae154521a92d96a9d74fa1d50a05be9cbcfc", func := "cobweb/cobweblaw06.PixelHalves", spec := "pixelHalves", unfollowed := true, recurses := true, apart := false, narrowed := true }
def PixelHalvesUptoSaid : Prop := pixelHalvesUptoRow.holds Try.pinned (OpenSpec.upto pixelHalvesSpec)

end Rows
end Go.Proofs.Ytfcehanpmbeegaa
