/-
  DERIVED. GIVEN WITH THE SEED: THE CARDS: each row of YtpncnpmikhbmnaaDoorRows.lean that lists a variable, with what it lists TIED to the program's text (the seventh form; the later family's looks); each row that meets fmt, with fmt's text TOLD by the authors' own Lean function (tested against real Go, not proved from fmt's source: count such statements apart). THE CARD IS WHAT COUNTS. Prove the row's statement (the work); the ties are given (YtpncnpmikhbmnaaDoorTie.lean); close each card by the builder's one call (the guide's Derived/Test/ToyasCard.lean, 'card_holds'). Laid BY PROGRAM, IN A SANDBOX (cutbox-door.mjs). By AI agents, Wed Nov 11 2026. No macro, syntax, notation, axiom, sorry.
-/
import Derived.Test.YtpncnpmikhbmnaaDoorRows
import GoSem.ClaimSeven
namespace Go.Proofs.YtpncnpmikhbmnaaDoor
namespace Rows

/-- THE TIED CARD OF 'apiarylaw2.EisenTurn'. -/
def eisenTurnCard : Claim7 := { stood := { row := eisenTurnRow, standIns := [], harness := (true, "2e761d476ee13e188482b9e8991aa360a3bf551609df1d4d8bf5972af3a4ca48"), looks := false }, kinds := [], alts := [], laidByText := true, laidKinds := [.data], laidTests := true, laidLooks := .later }
def EisenTurnCardSaid : Prop := Claim7.holds Tryd.pinned (.plain (OpenSpec.ofChange eisenTurnSpec)) eisenTurnCard

/-- THE TIED CARD OF 'apiarylaw2.EisenMoved'. -/
def eisenMovedCard : Claim7 := { stood := { row := eisenMovedRow, standIns := [], harness := (true, "2e761d476ee13e188482b9e8991aa360a3bf551609df1d4d8bf5972af3a4ca48"), looks := false }, kinds := [], alts := [], laidByText := true, laidKinds := [.data], laidTests := true, laidLooks := .later }
def EisenMovedCardSaid : Prop := Claim7.holds Tryd.pinned (.plain (OpenSpec.ofChange eisenMovedSpec)) eisenMovedCard

/-- THE TIED CARD OF 'apiarylaw2.EisenBounds'. -/
def eisenBoundsCard : Claim7 := { stood := { row := eisenBoundsRow, standIns := [], harness := (true, "2e761d476ee13e188482b9e8991aa360a3bf551609df1d4d8bf5972af3a4ca48"), looks := false }, kinds := [], alts := [], laidByText := true, laidKinds := [.data], laidTests := true, laidLooks := .later }
def EisenBoundsCardSaid : Prop := Claim7.holds Tryd.pinned (.plain (OpenSpec.ofChange eisenBoundsSpec)) eisenBoundsCard

/-- THE TIED CARD OF 'apiarylaw2.EisenWhole'. -/
def eisenWholeCard : Claim7 := { stood := { row := eisenWholeRow, standIns := [], harness := (true, "2e761d476ee13e188482b9e8991aa360a3bf551609df1d4d8bf5972af3a4ca48"), looks := false }, kinds := [], alts := [], laidByText := true, laidKinds := [.data], laidTests := true, laidLooks := .later }
def EisenWholeCardSaid : Prop := Claim7.holds Tryd.pinned (.plain (OpenSpec.ofChange eisenWholeSpec)) eisenWholeCard

/-- THE TIED CARD OF 'apiarylaw2.EisenReckons'. -/
def eisenReckonsCard : Claim7 := { stood := { row := eisenReckonsRow, standIns := [], harness := (true, "2e761d476ee13e188482b9e8991aa360a3bf551609df1d4d8bf5972af3a4ca48"), looks := false }, kinds := [], alts := [], laidByText := true, laidKinds := [.data], laidTests := true, laidLooks := .later }
def EisenReckonsCardSaid : Prop := Claim7.holds Tryd.pinned (.plain (OpenSpec.ofChange eisenReckonsSpec)) eisenReckonsCard

/-- THE TIED CARD OF 'apiarylaw2.EisenUnits'. -/
def eisenUnitsCard : Claim7 := { stood := { row := eisenUnitsRow, standIns := [], harness := (true, "2e761d476ee13e188482b9e8991aa360a3bf551609df1d4d8bf5972af3a4ca48"), looks := false }, kinds := [], alts := [], laidByText := true, laidKinds := [.data], laidTests := true, laidLooks := .later }
def EisenUnitsCardSaid : Prop := Claim7.holds Tryd.pinned (.plain (OpenSpec.ofChange eisenUnitsSpec)) eisenUnitsCard

/-- THE SECOND FORM's CARD OF 'apiarylaw2.EisenTurn'. -/
def eisenTurnUptoCard : Claim7 := { stood := { row := eisenTurnUptoRow, standIns := [], harness := (true, "2e761d476ee13e188482b9e8991aa360a3bf551609df1d4d8bf5972af3a4ca48"), looks := false }, kinds := [], alts := [], laidByText := true, laidKinds := [.data], laidTests := true, laidLooks := .later }
def EisenTurnUptoCardSaid : Prop := Claim7.holds Tryd.pinned (.plain (OpenSpec.upto eisenTurnSpec)) eisenTurnUptoCard

/-- THE SECOND FORM's CARD OF 'apiarylaw2.EisenMoved'. -/
def eisenMovedUptoCard : Claim7 := { stood := { row := eisenMovedUptoRow, standIns := [], harness := (true, "2e761d476ee13e188482b9e8991aa360a3bf551609df1d4d8bf5972af3a4ca48"), looks := false }, kinds := [], alts := [], laidByText := true, laidKinds := [.data], laidTests := true, laidLooks := .later }
def EisenMovedUptoCardSaid : Prop := Claim7.holds Tryd.pinned (.plain (OpenSpec.upto eisenMovedSpec)) eisenMovedUptoCard

/-- THE SECOND FORM's CARD OF 'apiarylaw2.EisenBounds'. -/
def eisenBoundsUptoCard : Claim7 := { stood := { row := eisenBoundsUptoRow, standIns := [], harness := (true, "2e761d476ee13e188482b9e8991aa360a3bf551609df1d4d8bf5972af3a4ca48"), looks := false }, kinds := [], alts := [], laidByText := true, laidKinds := [.data], laidTests := true, laidLooks := .later }
def EisenBoundsUptoCardSaid : Prop := Claim7.holds Tryd.pinned (.plain (OpenSpec.upto eisenBoundsSpec)) eisenBoundsUptoCard

/-- THE SECOND FORM's CARD OF 'apiarylaw2.EisenWhole'. -/
def eisenWholeUptoCard : Claim7 := { stood := { row := eisenWholeUptoRow, standIns := [], harness := (true, "2e761d476ee13e188482b9e8991aa360a3bf551609df1d4d8bf5972af3a4ca48"), looks := false }, kinds := [], alts := [], laidByText := true, laidKinds := [.data], laidTests := true, laidLooks := .later }
def EisenWholeUptoCardSaid : Prop := Claim7.holds Tryd.pinned (.plain (OpenSpec.upto eisenWholeSpec)) eisenWholeUptoCard

/-- THE SECOND FORM's CARD OF 'apiarylaw2.EisenReckons'. -/
def eisenReckonsUptoCard : Claim7 := { stood := { row := eisenReckonsUptoRow, standIns := [], harness := (true, "2e761d476ee13e188482b9e8991aa360a3bf551609df1d4d8bf5972af3a4ca48"), looks := false }, kinds := [], alts := [], laidByText := true, laidKinds := [.data], laidTests := true, laidLooks := .later }
def EisenReckonsUptoCardSaid : Prop := Claim7.holds Tryd.pinned (.plain (OpenSpec.upto eisenReckonsSpec)) eisenReckonsUptoCard

/-- THE SECOND FORM's CARD OF 'apiarylaw2.EisenUnits'. -/
def eisenUnitsUptoCard : Claim7 := { stood := { row := eisenUnitsUptoRow, standIns := [], harness := (true, "2e761d476ee13e188482b9e8991aa360a3bf551609df1d4d8bf5972af3a4ca48"), looks := false }, kinds := [], alts := [], laidByText := true, laidKinds := [.data], laidTests := true, laidLooks := .later }
def EisenUnitsUptoCardSaid : Prop := Claim7.holds Tryd.pinned (.plain (OpenSpec.upto eisenUnitsSpec)) eisenUnitsUptoCard
end Rows
end Go.Proofs.YtpncnpmikhbmnaaDoor
