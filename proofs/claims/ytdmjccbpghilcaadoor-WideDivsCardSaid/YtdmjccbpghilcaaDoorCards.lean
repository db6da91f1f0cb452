/-
  DERIVED. GIVEN WITH THE SEED: THE CARDS: each row of YtdmjccbpghilcaaDoorRows.lean that lists a variable, with what it lists TIED to the program's text (the seventh form; the later family's looks); each row that meets fmt, with fmt's text TOLD by the authors' own Lean function (tested against real Go, not proved from fmt's source: count such statements apart). THE CARD IS WHAT COUNTS. Prove the row's statement (the work); the ties are given (YtdmjccbpghilcaaDoorTie.lean); close each card by the builder's one call (the guide's Derived/Test/ToyasCard.lean, 'card_holds'). Laid BY PROGRAM, IN A SANDBOX (cutbox-door.mjs). By AI agents, Wed Nov 11 2026. No macro, syntax, notation, axiom, sorry.
-/
import Derived.Test.YtdmjccbpghilcaaDoorRows
import GoSem.ClaimSeven
namespace Go.Proofs.YtdmjccbpghilcaaDoor
namespace Rows

/-- THE TIED CARD OF 'cobweblaw01.WideAdds'. -/
def wideAddsCard : Claim7 := { stood := { row := wideAddsRow, standIns := [], harness := (true, "3648ae984ef025d1f4377698265befb84abd00aed7ae403f23414c5c311560a3"), looks := false }, kinds := [], alts := [], laidByText := true, laidKinds := [.data, .data, .data], laidTests := true, laidLooks := .later }
def WideAddsCardSaid : Prop := Claim7.holds Tryd.pinned (.plain (OpenSpec.ofChange wideAddsSpec)) wideAddsCard

/-- THE TIED CARD OF 'cobweblaw01.WideMuls'. -/
def wideMulsCard : Claim7 := { stood := { row := wideMulsRow, standIns := [], harness := (true, "3648ae984ef025d1f4377698265befb84abd00aed7ae403f23414c5c311560a3"), looks := false }, kinds := [], alts := [], laidByText := true, laidKinds := [.data, .data, .data], laidTests := true, laidLooks := .later }
def WideMulsCardSaid : Prop := Claim7.holds Tryd.pinned (.plain (OpenSpec.ofChange wideMulsSpec)) wideMulsCard

/-- THE TIED CARD OF 'cobweblaw01.WideShifts'. -/
def wideShiftsCard : Claim7 := { stood := { row := wideShiftsRow, standIns := [], harness := (true, "3648ae984ef025d1f4377698265befb84abd00aed7ae403f23414c5c311560a3"), looks := false }, kinds := [], alts := [], laidByText := true, laidKinds := [.data, .data, .data], laidTests := true, laidLooks := .later }
def WideShiftsCardSaid : Prop := Claim7.holds Tryd.pinned (.plain (OpenSpec.ofChange wideShiftsSpec)) wideShiftsCard

/-- THE TIED CARD OF 'cobweblaw01.WideOrders'. -/
def wideOrdersCard : Claim7 := { stood := { row := wideOrdersRow, standIns := [], harness := (true, "3648ae984ef025d1f4377698265befb84abd00aed7ae403f23414c5c311560a3"), looks := false }, kinds := [], alts := [], laidByText := true, laidKinds := [.data, .data, .data], laidTests := true, laidLooks := .later }
def WideOrdersCardSaid : Prop := Claim7.holds Tryd.pinned (.plain (OpenSpec.ofChange wideOrdersSpec)) wideOrdersCard

/-- THE TIED CARD OF 'cobweblaw01.WideDivs'. -/
def wideDivsCard : Claim7 := { stood := { row := wideDivsRow, standIns := [], harness := (true, "3648ae984ef025d1f4377698265befb84abd00aed7ae403f23414c5c311560a3"), looks := false }, kinds := [], alts := [], laidByText := true, laidKinds := [.data, .data, .data], laidTests := true, laidLooks := .later }
def WideDivsCardSaid : Prop := Claim7.holds Tryd.pinned (.plain (OpenSpec.ofChange wideDivsSpec)) wideDivsCard

/-- THE TIED CARD OF 'cobweblaw01.WideSmall'. -/
def wideSmallCard : Claim7 := { stood := { row := wideSmallRow, standIns := [], harness := (true, "3648ae984ef025d1f4377698265befb84abd00aed7ae403f23414c5c311560a3"), looks := false }, kinds := [], alts := [], laidByText := true, laidKinds := [.data, .data, .data], laidTests := true, laidLooks := .later }
def WideSmallCardSaid : Prop := Claim7.holds Tryd.pinned (.plain (OpenSpec.ofChange wideSmallSpec)) wideSmallCard

/-- THE TIED CARD OF 'cobweblaw01.WideTexts'. -/
def wideTextsCard : Claim7 := { stood := { row := wideTextsRow, standIns := [], harness := (true, "3648ae984ef025d1f4377698265befb84abd00aed7ae403f23414c5c311560a3"), looks := false }, kinds := [], alts := [], laidByText := true, laidKinds := [.data, .data, .data], laidTests := true, laidLooks := .later }
def WideTextsCardSaid : Prop := Claim7.holds Tryd.pinned (.plain (OpenSpec.ofChange wideTextsSpec)) wideTextsCard

/-- THE TIED CARD OF 'cobweblaw01.WideBack'. -/
def wideBackCard : Claim7 := { stood := { row := wideBackRow, standIns := [], harness := (true, "3648ae984ef025d1f4377698265befb84abd00aed7ae403f23414c5c311560a3"), looks := false }, kinds := [], alts := [], laidByText := true, laidKinds := [.data, .data, .data], laidTests := true, laidLooks := .later }
def WideBackCardSaid : Prop := Claim7.holds Tryd.pinned (.plain (OpenSpec.ofChange wideBackSpec)) wideBackCard

/-- THE TIED CARD OF 'cobweblaw01.WideScales'. -/
def wideScalesCard : Claim7 := { stood := { row := wideScalesRow, standIns := [], harness := (true, "3648ae984ef025d1f4377698265befb84abd00aed7ae403f23414c5c311560a3"), looks := false }, kinds := [], alts := [], laidByText := true, laidKinds := [.data, .data, .data], laidTests := true, laidLooks := .later }
def WideScalesCardSaid : Prop := Claim7.holds Tryd.pinned (.plain (OpenSpec.ofChange wideScalesSpec)) wideScalesCard

/-- THE SECOND FORM's CARD OF 'cobweblaw01.WideAdds'. -/
def wideAddsUptoCard : Claim7 := { stood := { row := wideAddsUptoRow, standIns := [], harness := (true, "3648ae984ef025d1f4377698265befb84abd00aed7ae403f23414c5c311560a3"), looks := false }, kinds := [], alts := [], laidByText := true, laidKinds := [.data, .data, .data], laidTests := true, laidLooks := .later }
def WideAddsUptoCardSaid : Prop := Claim7.holds Tryd.pinned (.plain (OpenSpec.upto wideAddsSpec)) wideAddsUptoCard

/-- THE SECOND FORM's CARD OF 'cobweblaw01.WideMuls'. -/
def wideMulsUptoCard : Claim7 := { stood := { row := wideMulsUptoRow, standIns := [], harness := (true, "3648ae984ef025d1f4377698265befb84abd00aed7ae403f23414c5c311560a3"), looks := false }, kinds := [], alts := [], laidByText := true, laidKinds := [.data, .data, .data], laidTests := true, laidLooks := .later }
def WideMulsUptoCardSaid : Prop := Claim7.holds Tryd.pinned (.plain (OpenSpec.upto wideMulsSpec)) wideMulsUptoCard

/-- THE SECOND FORM's CARD OF 'cobweblaw01.WideShifts'. -/
def wideShiftsUptoCard : Claim7 := { stood := { row := wideShiftsUptoRow, standIns := [], harness := (true, "3648ae984ef025d1f4377698265befb84abd00aed7ae403f23414c5c311560a3"), looks := false }, kinds := [], alts := [], laidByText := true, laidKinds := [.data, .data, .data], laidTests := true, laidLooks := .later }
def WideShiftsUptoCardSaid : Prop := Claim7.holds Tryd.pinned (.plain (OpenSpec.upto wideShiftsSpec)) wideShiftsUptoCard

/-- THE SECOND FORM's CARD OF 'cobweblaw01.WideOrders'. -/
def wideOrdersUptoCard : Claim7 := { stood := { row := wideOrdersUptoRow, standIns := [], harness := (true, "3648ae984ef025d1f4377698265befb84abd00aed7ae403f23414c5c311560a3"), looks := false }, kinds := [], alts := [], laidByText := true, laidKinds := [.data, .data, .data], laidTests := true, laidLooks := .later }
def WideOrdersUptoCardSaid : Prop := Claim7.holds Tryd.pinned (.plain (OpenSpec.upto wideOrdersSpec)) wideOrdersUptoCard

/-- THE SECOND FORM's CARD OF 'cobweblaw01.WideDivs'. -/
def wideDivsUptoCard : Claim7 := { stood := { row := wideDivsUptoRow, standIns := [], harness := (true, "3648ae984ef025d1f4377698265befb84abd00aed7ae403f23414c5c311560a3"), looks := false }, kinds := [], alts := [], laidByText := true, laidKinds := [.data, .data, .data], laidTests := true, laidLooks := .later }
def WideDivsUptoCardSaid : Prop := Claim7.holds Tryd.pinned (.plain (OpenSpec.upto wideDivsSpec)) wideDivsUptoCard

/-- THE SECOND FORM's CARD OF 'cobweblaw01.WideSmall'. -/
def wideSmallUptoCard : Claim7 := { stood := { row := wideSmallUptoRow, standIns := [], harness := (true, "3648ae984ef025d1f4377698265befb84abd00aed7ae403f23414c5c311560a3"), looks := false }, kinds := [], alts := [], laidByText := true, laidKinds := [.data, .data, .data], laidTests := true, laidLooks := .later }
def WideSmallUptoCardSaid : Prop := Claim7.holds Tryd.pinned (.plain (OpenSpec.upto wideSmallSpec)) wideSmallUptoCard

/-- THE SECOND FORM's CARD OF 'cobweblaw01.WideTexts'. -/
def wideTextsUptoCard : Claim7 := { stood := { row := wideTextsUptoRow, standIns := [], harness := (true, "3648ae984ef025d1f4377698265befb84abd00aed7ae403f23414c5c311560a3"), looks := false }, kinds := [], alts := [], laidByText := true, laidKinds := [.data, .data, .data], laidTests := true, laidLooks := .later }
def WideTextsUptoCardSaid : Prop := Claim7.holds Tryd.pinned (.plain (OpenSpec.upto wideTextsSpec)) wideTextsUptoCard

/-- THE SECOND FORM's CARD OF 'cobweblaw01.WideBack'. -/
def wideBackUptoCard : Claim7 := { stood := { row := wideBackUptoRow, standIns := [], harness := (true, "3648ae984ef025d1f4377698265befb84abd00aed7ae403f23414c5c311560a3"), looks := false }, kinds := [], alts := [], laidByText := true, laidKinds := [.data, .data, .data], laidTests := true, laidLooks := .later }
def WideBackUptoCardSaid : Prop := Claim7.holds Tryd.pinned (.plain (OpenSpec.upto wideBackSpec)) wideBackUptoCard

/-- THE SECOND FORM's CARD OF 'cobweblaw01.WideScales'. -/
def wideScalesUptoCard : Claim7 := { stood := { row := wideScalesUptoRow, standIns := [], harness := (true, "3648ae984ef025d1f4377698265befb84abd00aed7ae403f23414c5c311560a3"), looks := false }, kinds := [], alts := [], laidByText := true, laidKinds := [.data, .data, .data], laidTests := true, laidLooks := .later }
def WideScalesUptoCardSaid : Prop := Claim7.holds Tryd.pinned (.plain (OpenSpec.upto wideScalesSpec)) wideScalesUptoCard
end Rows
end Go.Proofs.YtdmjccbpghilcaaDoor
