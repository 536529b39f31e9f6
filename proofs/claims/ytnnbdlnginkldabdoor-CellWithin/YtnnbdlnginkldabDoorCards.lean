/-
  DERIVED. GIVEN WITH THE SEED: THE CARDS: each row of YtnnbdlnginkldabDoorRows.lean that lists a variable, with what it lists TIED to the program's text (the seventh form; the later family's looks); each row that meets fmt, with fmt's text TOLD by the authors' own Lean function (tested against real Go, not proved from fmt's source: count such statements apart). THE CARD IS WHAT COUNTS. Prove the row's statement (the work); the ties are given (YtnnbdlnginkldabDoorTie.lean); close each card by the builder's one call (the guide's Derived/Test/ToyasCard.lean, 'card_holds'). Laid BY PROGRAM, IN A SANDBOX (cutbox-door.mjs). By AI agents, Wed Nov 11 2026. No macro, syntax, notation, axiom, sorry.
-/
import Derived.Test.YtnnbdlnginkldabDoorRows
import GoSem.ClaimSeven
namespace Go.Proofs.YtnnbdlnginkldabDoor
namespace Rows

/-- THE TIED CARD OF 'apiarylaw4.CellWithin'. -/
def cellWithinCard : Claim7 := { stood := { row := cellWithinRow, standIns := [], harness := (true, "1bdf36cbd82f5a21c2dbe2cf7b12525947114883b60f626f34788d005bc2eac1"), looks := false }, kinds := [], alts := [], laidByText := true, laidKinds := [.data, .data], laidTests := true, laidLooks := .later }
def CellWithinCardSaid : Prop := Claim7.holds Tryd.pinned (.plain (OpenSpec.ofChange cellWithinSpec)) cellWithinCard

/-- THE TIED CARD OF 'apiarylaw4.CellCentres'. -/
def cellCentresCard : Claim7 := { stood := { row := cellCentresRow, standIns := [], harness := (true, "1bdf36cbd82f5a21c2dbe2cf7b12525947114883b60f626f34788d005bc2eac1"), looks := false }, kinds := [], alts := [], laidByText := true, laidKinds := [.data, .data], laidTests := true, laidLooks := .later }
def CellCentresCardSaid : Prop := Claim7.holds Tryd.pinned (.plain (OpenSpec.ofChange cellCentresSpec)) cellCentresCard

/-- THE TIED CARD OF 'apiarylaw4.CellSteps'. -/
def cellStepsCard : Claim7 := { stood := { row := cellStepsRow, standIns := [], harness := (true, "1bdf36cbd82f5a21c2dbe2cf7b12525947114883b60f626f34788d005bc2eac1"), looks := false }, kinds := [], alts := [], laidByText := true, laidKinds := [.data, .data], laidTests := true, laidLooks := .later }
def CellStepsCardSaid : Prop := Claim7.holds Tryd.pinned (.plain (OpenSpec.ofChange cellStepsSpec)) cellStepsCard

/-- THE SECOND FORM's CARD OF 'apiarylaw4.CellWithin'. -/
def cellWithinUptoCard : Claim7 := { stood := { row := cellWithinUptoRow, standIns := [], harness := (true, "1bdf36cbd82f5a21c2dbe2cf7b12525947114883b60f626f34788d005bc2eac1"), looks := false }, kinds := [], alts := [], laidByText := true, laidKinds := [.data, .data], laidTests := true, laidLooks := .later }
def CellWithinUptoCardSaid : Prop := Claim7.holds Tryd.pinned (.plain (OpenSpec.upto cellWithinSpec)) cellWithinUptoCard

/-- THE SECOND FORM's CARD OF 'apiarylaw4.CellCentres'. -/
def cellCentresUptoCard : Claim7 := { stood := { row := cellCentresUptoRow, standIns := [], harness := (true, "1bdf36cbd82f5a21c2dbe2cf7b12525947114883b60f626f34788d005bc2eac1"), looks := false }, kinds := [], alts := [], laidByText := true, laidKinds := [.data, .data], laidTests := true, laidLooks := .later }
def CellCentresUptoCardSaid : Prop := Claim7.holds Tryd.pinned (.plain (OpenSpec.upto cellCentresSpec)) cellCentresUptoCard

/-- THE SECOND FORM's CARD OF 'apiarylaw4.CellSteps'. -/
def cellStepsUptoCard : Claim7 := { stood := { row := cellStepsUptoRow, standIns := [], harness := (true, "1bdf36cbd82f5a21c2dbe2cf7b12525947114883b60f626f34788d005bc2eac1"), looks := false }, kinds := [], alts := [], laidByText := true, laidKinds := [.data, .data], laidTests := true, laidLooks := .later }
def CellStepsUptoCardSaid : Prop := Claim7.holds Tryd.pinned (.plain (OpenSpec.upto cellStepsSpec)) cellStepsUptoCard
end Rows
end Go.Proofs.YtnnbdlnginkldabDoor
