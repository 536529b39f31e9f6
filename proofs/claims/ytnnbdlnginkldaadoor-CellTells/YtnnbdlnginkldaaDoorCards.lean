/-
  DERIVED. GIVEN WITH THE SEED: THE CARDS: each row of YtnnbdlnginkldaaDoorRows.lean that lists a variable, with what it lists TIED to the program's text (the seventh form; the later family's looks); each row that meets fmt, with fmt's text TOLD by the authors' own Lean function (tested against real Go, not proved from fmt's source: count such statements apart). THE CARD IS WHAT COUNTS. Prove the row's statement (the work); the ties are given (YtnnbdlnginkldaaDoorTie.lean); close each card by the builder's one call (the guide's Derived/Test/ToyasCard.lean, 'card_holds'). Laid BY PROGRAM, IN A SANDBOX (cutbox-door.mjs). By AI agents, Wed Nov 11 2026. No macro, syntax, notation, axiom, sorry.
-/
import Derived.Test.YtnnbdlnginkldaaDoorRows
import GoSem.ClaimSeven
namespace Go.Proofs.YtnnbdlnginkldaaDoor
namespace Rows

/-- THE TIED CARD OF 'apiarylaw4.CellUps'. -/
def cellUpsCard : Claim7 := { stood := { row := cellUpsRow, standIns := [], harness := (true, "416fe9aa84fd87b5d1e90e0367d462eca706d7ee4b72225d7c9c27a14aaae55b"), looks := false }, kinds := [], alts := [], laidByText := true, laidKinds := [.data, .data], laidTests := true, laidLooks := .later }
def CellUpsCardSaid : Prop := Claim7.holds Tryd.pinned (.plain (OpenSpec.ofChange cellUpsSpec)) cellUpsCard

/-- THE TIED CARD OF 'apiarylaw4.CellEdge'. -/
def cellEdgeCard : Claim7 := { stood := { row := cellEdgeRow, standIns := [], harness := (true, "416fe9aa84fd87b5d1e90e0367d462eca706d7ee4b72225d7c9c27a14aaae55b"), looks := false }, kinds := [], alts := [], laidByText := true, laidKinds := [.data, .data], laidTests := true, laidLooks := .later }
def CellEdgeCardSaid : Prop := Claim7.holds Tryd.pinned (.plain (OpenSpec.ofChange cellEdgeSpec)) cellEdgeCard

/-- THE TIED CARD OF 'apiarylaw4.CellWorld'. -/
def cellWorldCard : Claim7 := { stood := { row := cellWorldRow, standIns := [], harness := (true, "416fe9aa84fd87b5d1e90e0367d462eca706d7ee4b72225d7c9c27a14aaae55b"), looks := false }, kinds := [], alts := [], laidByText := true, laidKinds := [.data, .data], laidTests := true, laidLooks := .later }
def CellWorldCardSaid : Prop := Claim7.holds Tryd.pinned (.plain (OpenSpec.ofChange cellWorldSpec)) cellWorldCard

/-- THE TIED CARD OF 'apiarylaw4.CellTells'. -/
def cellTellsCard : Claim7 := { stood := { row := cellTellsRow, standIns := [], harness := (true, "416fe9aa84fd87b5d1e90e0367d462eca706d7ee4b72225d7c9c27a14aaae55b"), looks := false }, kinds := [], alts := [], laidByText := true, laidKinds := [.data, .data], laidTests := true, laidLooks := .later }
def CellTellsCardSaid : Prop := Claim7.holds Tryd.pinned (.plain (OpenSpec.ofChange cellTellsSpec)) cellTellsCard

/-- THE TIED CARD OF 'apiarylaw4.CellOf'. -/
def cellOfCard : Claim7 := { stood := { row := cellOfRow, standIns := [], harness := (true, "416fe9aa84fd87b5d1e90e0367d462eca706d7ee4b72225d7c9c27a14aaae55b"), looks := false }, kinds := [], alts := [], laidByText := true, laidKinds := [.data, .data], laidTests := true, laidLooks := .later }
def CellOfCardSaid : Prop := Claim7.holds Tryd.pinned (.plain (OpenSpec.ofChange cellOfSpec)) cellOfCard

/-- THE TIED CARD OF 'apiarylaw4.CellFamily'. -/
def cellFamilyCard : Claim7 := { stood := { row := cellFamilyRow, standIns := [], harness := (true, "416fe9aa84fd87b5d1e90e0367d462eca706d7ee4b72225d7c9c27a14aaae55b"), looks := false }, kinds := [], alts := [], laidByText := true, laidKinds := [.data, .data], laidTests := true, laidLooks := .later }
def CellFamilyCardSaid : Prop := Claim7.holds Tryd.pinned (.plain (OpenSpec.ofChange cellFamilySpec)) cellFamilyCard

/-- THE SECOND FORM's CARD OF 'apiarylaw4.CellUps'. -/
def cellUpsUptoCard : Claim7 := { stood := { row := cellUpsUptoRow, standIns := [], harness := (true, "416fe9aa84fd87b5d1e90e0367d462eca706d7ee4b72225d7c9c27a14aaae55b"), looks := false }, kinds := [], alts := [], laidByText := true, laidKinds := [.data, .data], laidTests := true, laidLooks := .later }
def CellUpsUptoCardSaid : Prop := Claim7.holds Tryd.pinned (.plain (OpenSpec.upto cellUpsSpec)) cellUpsUptoCard

/-- THE SECOND FORM's CARD OF 'apiarylaw4.CellEdge'. -/
def cellEdgeUptoCard : Claim7 := { stood := { row := cellEdgeUptoRow, standIns := [], harness := (true, "416fe9aa84fd87b5d1e90e0367d462eca706d7ee4b72225d7c9c27a14aaae55b"), looks := false }, kinds := [], alts := [], laidByText := true, laidKinds := [.data, .data], laidTests := true, laidLooks := .later }
def CellEdgeUptoCardSaid : Prop := Claim7.holds Tryd.pinned (.plain (OpenSpec.upto cellEdgeSpec)) cellEdgeUptoCard

/-- THE SECOND FORM's CARD OF 'apiarylaw4.CellWorld'. -/
def cellWorldUptoCard : Claim7 := { stood := { row := cellWorldUptoRow, standIns := [], harness := (true, "416fe9aa84fd87b5d1e90e0367d462eca706d7ee4b72225d7c9c27a14aaae55b"), looks := false }, kinds := [], alts := [], laidByText := true, laidKinds := [.data, .data], laidTests := true, laidLooks := .later }
def CellWorldUptoCardSaid : Prop := Claim7.holds Tryd.pinned (.plain (OpenSpec.upto cellWorldSpec)) cellWorldUptoCard

/-- THE SECOND FORM's CARD OF 'apiarylaw4.CellTells'. -/
def cellTellsUptoCard : Claim7 := { stood := { row := cellTellsUptoRow, standIns := [], harness := (true, "416fe9aa84fd87b5d1e90e0367d462eca706d7ee4b72225d7c9c27a14aaae55b"), looks := false }, kinds := [], alts := [], laidByText := true, laidKinds := [.data, .data], laidTests := true, laidLooks := .later }
def CellTellsUptoCardSaid : Prop := Claim7.holds Tryd.pinned (.plain (OpenSpec.upto cellTellsSpec)) cellTellsUptoCard

/-- THE SECOND FORM's CARD OF 'apiarylaw4.CellOf'. -/
def cellOfUptoCard : Claim7 := { stood := { row := cellOfUptoRow, standIns := [], harness := (true, "416fe9aa84fd87b5d1e90e0367d462eca706d7ee4b72225d7c9c27a14aaae55b"), looks := false }, kinds := [], alts := [], laidByText := true, laidKinds := [.data, .data], laidTests := true, laidLooks := .later }
def CellOfUptoCardSaid : Prop := Claim7.holds Tryd.pinned (.plain (OpenSpec.upto cellOfSpec)) cellOfUptoCard

/-- THE SECOND FORM's CARD OF 'apiarylaw4.CellFamily'. -/
def cellFamilyUptoCard : Claim7 := { stood := { row := cellFamilyUptoRow, standIns := [], harness := (true, "416fe9aa84fd87b5d1e90e0367d462eca706d7ee4b72225d7c9c27a14aaae55b"), looks := false }, kinds := [], alts := [], laidByText := true, laidKinds := [.data, .data], laidTests := true, laidLooks := .later }
def CellFamilyUptoCardSaid : Prop := Claim7.holds Tryd.pinned (.plain (OpenSpec.upto cellFamilySpec)) cellFamilyUptoCard
end Rows
end Go.Proofs.YtnnbdlnginkldaaDoor
