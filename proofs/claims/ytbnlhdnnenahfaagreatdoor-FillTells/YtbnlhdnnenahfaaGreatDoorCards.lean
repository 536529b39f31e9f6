/-
  DERIVED. GIVEN WITH THE SEED: THE CARDS: each row of YtbnlhdnnenahfaaGreatDoorRows.lean that lists a variable, with what it lists TIED to the program's text (the seventh form; the later family's looks); each row that meets fmt, with fmt's text TOLD by the authors' own Lean function (tested against real Go, not proved from fmt's source: count such statements apart). THE CARD IS WHAT COUNTS. Prove the row's statement (the work); the ties are given (YtbnlhdnnenahfaaGreatDoorTie.lean); close each card by the builder's one call (the guide's Derived/Test/ToyasCard.lean, 'card_holds'). Laid BY PROGRAM, IN A SANDBOX (cutbox-door.mjs). By AI agents, Wed Nov 11 2026. No macro, syntax, notation, axiom, sorry.
-/
import Derived.Test.YtbnlhdnnenahfaaGreatDoorRows
import GoSem.ClaimSeven
namespace Go.Proofs.YtbnlhdnnenahfaaGreatDoor
namespace Rows

/-- THE TIED CARD OF 'apiarylaw11.FillBoxes'. -/
def fillBoxesCard : Claim7 := { stood := { row := fillBoxesRow, standIns := [], harness := (true, "6a4dcfb997da628f386d636f7df66bac324a5c76934a2864c65a55346abc3a53"), looks := true }, kinds := [], alts := [], laidByText := true, laidKinds := [.data, .data, .data], laidTests := true, laidLooks := .later }
def FillBoxesCardSaid : Prop := Claim7.holds Tryz.pinned (.plain (OpenSpec.ofChange fillBoxesSpec)) fillBoxesCard

/-- THE TIED CARD OF 'apiarylaw11.FillHalves'. -/
def fillHalvesCard : Claim7 := { stood := { row := fillHalvesRow, standIns := [], harness := (true, "6a4dcfb997da628f386d636f7df66bac324a5c76934a2864c65a55346abc3a53"), looks := true }, kinds := [], alts := [], laidByText := true, laidKinds := [.data, .data, .data], laidTests := true, laidLooks := .later }
def FillHalvesCardSaid : Prop := Claim7.holds Tryz.pinned (.plain (OpenSpec.ofChange fillHalvesSpec)) fillHalvesCard

/-- THE TIED CARD OF 'apiarylaw11.FillTells'. -/
def fillTellsCard : Claim7 := { stood := { row := fillTellsRow, standIns := [], harness := (true, "6a4dcfb997da628f386d636f7df66bac324a5c76934a2864c65a55346abc3a53"), looks := true }, kinds := [], alts := [], laidByText := true, laidKinds := [.data, .data, .data], laidTests := true, laidLooks := .later }
def FillTellsCardSaid : Prop := Claim7.holds Tryz.pinned (.plain (OpenSpec.ofChange fillTellsSpec)) fillTellsCard

/-- THE TIED CARD OF 'apiarylaw11.FillApart'. -/
def fillApartCard : Claim7 := { stood := { row := fillApartRow, standIns := [], harness := (true, "6a4dcfb997da628f386d636f7df66bac324a5c76934a2864c65a55346abc3a53"), looks := true }, kinds := [], alts := [], laidByText := true, laidKinds := [.data, .data, .data], laidTests := true, laidLooks := .later }
def FillApartCardSaid : Prop := Claim7.holds Tryz.pinned (.plain (OpenSpec.ofChange fillApartSpec)) fillApartCard

/-- THE TIED CARD OF 'apiarylaw11.FillPacks'. -/
def fillPacksCard : Claim7 := { stood := { row := fillPacksRow, standIns := [], harness := (true, "6a4dcfb997da628f386d636f7df66bac324a5c76934a2864c65a55346abc3a53"), looks := true }, kinds := [], alts := [], laidByText := true, laidKinds := [.data, .data, .data], laidTests := true, laidLooks := .later }
def FillPacksCardSaid : Prop := Claim7.holds Tryz.pinned (.plain (OpenSpec.ofChange fillPacksSpec)) fillPacksCard

/-- THE SECOND FORM's CARD OF 'apiarylaw11.FillBoxes'. -/
def fillBoxesUptoCard : Claim7 := { stood := { row := fillBoxesUptoRow, standIns := [], harness := (true, "6a4dcfb997da628f386d636f7df66bac324a5c76934a2864c65a55346abc3a53"), looks := true }, kinds := [], alts := [], laidByText := true, laidKinds := [.data, .data, .data], laidTests := true, laidLooks := .later }
def FillBoxesUptoCardSaid : Prop := Claim7.holds Tryz.pinned (.plain (OpenSpec.upto fillBoxesSpec)) fillBoxesUptoCard

/-- THE SECOND FORM's CARD OF 'apiarylaw11.FillHalves'. -/
def fillHalvesUptoCard : Claim7 := { stood := { row := fillHalvesUptoRow, standIns := [], harness := (true, "6a4dcfb997da628f386d636f7df66bac324a5c76934a2864c65a55346abc3a53"), looks := true }, kinds := [], alts := [], laidByText := true, laidKinds := [.data, .data, .data], laidTests := true, laidLooks := .later }
def FillHalvesUptoCardSaid : Prop := Claim7.holds Tryz.pinned (.plain (OpenSpec.upto fillHalvesSpec)) fillHalvesUptoCard

/-- THE SECOND FORM's CARD OF 'apiarylaw11.FillTells'. -/
def fillTellsUptoCard : Claim7 := { stood := { row := fillTellsUptoRow, standIns := [], harness := (true, "6a4dcfb997da628f386d636f7df66bac324a5c76934a2864c65a55346abc3a53"), looks := true }, kinds := [], alts := [], laidByText := true, laidKinds := [.data, .data, .data], laidTests := true, laidLooks := .later }
def FillTellsUptoCardSaid : Prop := Claim7.holds Tryz.pinned (.plain (OpenSpec.upto fillTellsSpec)) fillTellsUptoCard

/-- THE SECOND FORM's CARD OF 'apiarylaw11.FillApart'. -/
def fillApartUptoCard : Claim7 := { stood := { row := fillApartUptoRow, standIns := [], harness := (true, "6a4dcfb997da628f386d636f7df66bac324a5c76934a2864c65a55346abc3a53"), looks := true }, kinds := [], alts := [], laidByText := true, laidKinds := [.data, .data, .data], laidTests := true, laidLooks := .later }
def FillApartUptoCardSaid : Prop := Claim7.holds Tryz.pinned (.plain (OpenSpec.upto fillApartSpec)) fillApartUptoCard

/-- THE SECOND FORM's CARD OF 'apiarylaw11.FillPacks'. -/
def fillPacksUptoCard : Claim7 := { stood := { row := fillPacksUptoRow, standIns := [], harness := (true, "6a4dcfb997da628f386d636f7df66bac324a5c76934a2864c65a55346abc3a53"), looks := true }, kinds := [], alts := [], laidByText := true, laidKinds := [.data, .data, .data], laidTests := true, laidLooks := .later }
def FillPacksUptoCardSaid : Prop := Claim7.holds Tryz.pinned (.plain (OpenSpec.upto fillPacksSpec)) fillPacksUptoCard
end Rows
end Go.Proofs.YtbnlhdnnenahfaaGreatDoor
