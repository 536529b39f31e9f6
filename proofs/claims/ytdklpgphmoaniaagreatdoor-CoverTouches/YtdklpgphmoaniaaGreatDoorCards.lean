/-
  DERIVED. GIVEN WITH THE SEED: THE CARDS: each row of YtdklpgphmoaniaaGreatDoorRows.lean that lists a variable, with what it lists TIED to the program's text (the seventh form; the later family's looks); each row that meets fmt, with fmt's text TOLD by the authors' own Lean function (tested against real Go, not proved from fmt's source: count such statements apart). THE CARD IS WHAT COUNTS. Prove the row's statement (the work); the ties are given (YtdklpgphmoaniaaGreatDoorTie.lean); close each card by the builder's one call (the guide's Derived/Test/ToyasCard.lean, 'card_holds'). Laid BY PROGRAM, IN A SANDBOX (cutbox-door.mjs). By AI agents, Wed Nov 11 2026. No macro, syntax, notation, axiom, sorry.
-/
import Derived.Test.YtdklpgphmoaniaaGreatDoorRows
import GoSem.ClaimSeven
namespace Go.Proofs.YtdklpgphmoaniaaGreatDoor
namespace Rows

/-- THE TIED CARD OF 'apiarylaw10.CoverNext'. -/
def coverNextCard : Claim7 := { stood := { row := coverNextRow, standIns := [], harness := (true, "e9f132f35eaa7af1829b11c524cea30f7638d823bf65c678ddbcb098b7b3dd81"), looks := true }, kinds := [], alts := [], laidByText := true, laidKinds := [.data, .data, .data], laidTests := true, laidLooks := .later }
def CoverNextCardSaid : Prop := Claim7.holds Tryz.pinned (.plain (OpenSpec.ofChange coverNextSpec)) coverNextCard

/-- THE TIED CARD OF 'apiarylaw10.CoverArgs'. -/
def coverArgsCard : Claim7 := { stood := { row := coverArgsRow, standIns := [], harness := (true, "e9f132f35eaa7af1829b11c524cea30f7638d823bf65c678ddbcb098b7b3dd81"), looks := true }, kinds := [], alts := [], laidByText := true, laidKinds := [.data, .data, .data], laidTests := true, laidLooks := .later }
def CoverArgsCardSaid : Prop := Claim7.holds Tryz.pinned (.plain (OpenSpec.ofChange coverArgsSpec)) coverArgsCard

/-- THE TIED CARD OF 'apiarylaw10.CoverSizes'. -/
def coverSizesCard : Claim7 := { stood := { row := coverSizesRow, standIns := [], harness := (true, "e9f132f35eaa7af1829b11c524cea30f7638d823bf65c678ddbcb098b7b3dd81"), looks := true }, kinds := [], alts := [], laidByText := true, laidKinds := [.data, .data, .data], laidTests := true, laidLooks := .later }
def CoverSizesCardSaid : Prop := Claim7.holds Tryz.pinned (.plain (OpenSpec.ofChange coverSizesSpec)) coverSizesCard

/-- THE TIED CARD OF 'apiarylaw10.CoverTouches'. -/
def coverTouchesCard : Claim7 := { stood := { row := coverTouchesRow, standIns := [], harness := (true, "e9f132f35eaa7af1829b11c524cea30f7638d823bf65c678ddbcb098b7b3dd81"), looks := true }, kinds := [], alts := [], laidByText := true, laidKinds := [.data, .data, .data], laidTests := true, laidLooks := .later }
def CoverTouchesCardSaid : Prop := Claim7.holds Tryz.pinned (.plain (OpenSpec.ofChange coverTouchesSpec)) coverTouchesCard

/-- THE TIED CARD OF 'apiarylaw10.CoverBoxes'. -/
def coverBoxesCard : Claim7 := { stood := { row := coverBoxesRow, standIns := [], harness := (true, "e9f132f35eaa7af1829b11c524cea30f7638d823bf65c678ddbcb098b7b3dd81"), looks := true }, kinds := [], alts := [], laidByText := true, laidKinds := [.data, .data, .data], laidTests := true, laidLooks := .later }
def CoverBoxesCardSaid : Prop := Claim7.holds Tryz.pinned (.plain (OpenSpec.ofChange coverBoxesSpec)) coverBoxesCard

/-- THE TIED CARD OF 'apiarylaw10.CoverPoints'. -/
def coverPointsCard : Claim7 := { stood := { row := coverPointsRow, standIns := [], harness := (true, "e9f132f35eaa7af1829b11c524cea30f7638d823bf65c678ddbcb098b7b3dd81"), looks := true }, kinds := [], alts := [], laidByText := true, laidKinds := [.data, .data, .data], laidTests := true, laidLooks := .later }
def CoverPointsCardSaid : Prop := Claim7.holds Tryz.pinned (.plain (OpenSpec.ofChange coverPointsSpec)) coverPointsCard

/-- THE SECOND FORM's CARD OF 'apiarylaw10.CoverNext'. -/
def coverNextUptoCard : Claim7 := { stood := { row := coverNextUptoRow, standIns := [], harness := (true, "e9f132f35eaa7af1829b11c524cea30f7638d823bf65c678ddbcb098b7b3dd81"), looks := true }, kinds := [], alts := [], laidByText := true, laidKinds := [.data, .data, .data], laidTests := true, laidLooks := .later }
def CoverNextUptoCardSaid : Prop := Claim7.holds Tryz.pinned (.plain (OpenSpec.upto coverNextSpec)) coverNextUptoCard

/-- THE SECOND FORM's CARD OF 'apiarylaw10.CoverArgs'. -/
def coverArgsUptoCard : Claim7 := { stood := { row := coverArgsUptoRow, standIns := [], harness := (true, "e9f132f35eaa7af1829b11c524cea30f7638d823bf65c678ddbcb098b7b3dd81"), looks := true }, kinds := [], alts := [], laidByText := true, laidKinds := [.data, .data, .data], laidTests := true, laidLooks := .later }
def CoverArgsUptoCardSaid : Prop := Claim7.holds Tryz.pinned (.plain (OpenSpec.upto coverArgsSpec)) coverArgsUptoCard

/-- THE SECOND FORM's CARD OF 'apiarylaw10.CoverSizes'. -/
def coverSizesUptoCard : Claim7 := { stood := { row := coverSizesUptoRow, standIns := [], harness := (true, "e9f132f35eaa7af1829b11c524cea30f7638d823bf65c678ddbcb098b7b3dd81"), looks := true }, kinds := [], alts := [], laidByText := true, laidKinds := [.data, .data, .data], laidTests := true, laidLooks := .later }
def CoverSizesUptoCardSaid : Prop := Claim7.holds Tryz.pinned (.plain (OpenSpec.upto coverSizesSpec)) coverSizesUptoCard

/-- THE SECOND FORM's CARD OF 'apiarylaw10.CoverTouches'. -/
def coverTouchesUptoCard : Claim7 := { stood := { row := coverTouchesUptoRow, standIns := [], harness := (true, "e9f132f35eaa7af1829b11c524cea30f7638d823bf65c678ddbcb098b7b3dd81"), looks := true }, kinds := [], alts := [], laidByText := true, laidKinds := [.data, .data, .data], laidTests := true, laidLooks := .later }
def CoverTouchesUptoCardSaid : Prop := Claim7.holds Tryz.pinned (.plain (OpenSpec.upto coverTouchesSpec)) coverTouchesUptoCard

/-- THE SECOND FORM's CARD OF 'apiarylaw10.CoverBoxes'. -/
def coverBoxesUptoCard : Claim7 := { stood := { row := coverBoxesUptoRow, standIns := [], harness := (true, "e9f132f35eaa7af1829b11c524cea30f7638d823bf65c678ddbcb098b7b3dd81"), looks := true }, kinds := [], alts := [], laidByText := true, laidKinds := [.data, .data, .data], laidTests := true, laidLooks := .later }
def CoverBoxesUptoCardSaid : Prop := Claim7.holds Tryz.pinned (.plain (OpenSpec.upto coverBoxesSpec)) coverBoxesUptoCard

/-- THE SECOND FORM's CARD OF 'apiarylaw10.CoverPoints'. -/
def coverPointsUptoCard : Claim7 := { stood := { row := coverPointsUptoRow, standIns := [], harness := (true, "e9f132f35eaa7af1829b11c524cea30f7638d823bf65c678ddbcb098b7b3dd81"), looks := true }, kinds := [], alts := [], laidByText := true, laidKinds := [.data, .data, .data], laidTests := true, laidLooks := .later }
def CoverPointsUptoCardSaid : Prop := Claim7.holds Tryz.pinned (.plain (OpenSpec.upto coverPointsSpec)) coverPointsUptoCard
end Rows
end Go.Proofs.YtdklpgphmoaniaaGreatDoor
