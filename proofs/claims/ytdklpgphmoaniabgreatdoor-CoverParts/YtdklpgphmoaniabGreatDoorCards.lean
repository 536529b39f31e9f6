/-
  DERIVED. GIVEN WITH THE SEED: THE CARDS: each row of YtdklpgphmoaniabGreatDoorRows.lean that lists a variable, with what it lists TIED to the program's text (the seventh form; the later family's looks); each row that meets fmt, with fmt's text TOLD by the authors' own Lean function (tested against real Go, not proved from fmt's source: count such statements apart). THE CARD IS WHAT COUNTS. Prove the row's statement (the work); the ties are given (YtdklpgphmoaniabGreatDoorTie.lean); close each card by the builder's one call (the guide's Derived/Test/ToyasCard.lean, 'card_holds'). Laid BY PROGRAM, IN A SANDBOX (cutbox-door.mjs). By AI agents, Wed Nov 11 2026. No macro, syntax, notation, axiom, sorry.
-/
import Derived.Test.YtdklpgphmoaniabGreatDoorRows
import GoSem.ClaimSeven
namespace Go.Proofs.YtdklpgphmoaniabGreatDoor
namespace Rows

/-- THE TIED CARD OF 'apiarylaw10.CoverParts'. -/
def coverPartsCard : Claim7 := { stood := { row := coverPartsRow, standIns := [], harness := (true, "f4a72e73768090b01a078c351964f5f1ccb34c8d11197c960644c1c4aba5bce7"), looks := true }, kinds := [], alts := [], laidByText := true, laidKinds := [.data, .data, .data], laidTests := true, laidLooks := .later }
def CoverPartsCardSaid : Prop := Claim7.holds Tryz.pinned (.plain (OpenSpec.ofChange coverPartsSpec)) coverPartsCard

/-- THE TIED CARD OF 'apiarylaw10.CoverBounds'. -/
def coverBoundsCard : Claim7 := { stood := { row := coverBoundsRow, standIns := [], harness := (true, "f4a72e73768090b01a078c351964f5f1ccb34c8d11197c960644c1c4aba5bce7"), looks := true }, kinds := [], alts := [], laidByText := true, laidKinds := [.data, .data, .data], laidTests := true, laidLooks := .later }
def CoverBoundsCardSaid : Prop := Claim7.holds Tryz.pinned (.plain (OpenSpec.ofChange coverBoundsSpec)) coverBoundsCard

/-- THE SECOND FORM's CARD OF 'apiarylaw10.CoverParts'. -/
def coverPartsUptoCard : Claim7 := { stood := { row := coverPartsUptoRow, standIns := [], harness := (true, "f4a72e73768090b01a078c351964f5f1ccb34c8d11197c960644c1c4aba5bce7"), looks := true }, kinds := [], alts := [], laidByText := true, laidKinds := [.data, .data, .data], laidTests := true, laidLooks := .later }
def CoverPartsUptoCardSaid : Prop := Claim7.holds Tryz.pinned (.plain (OpenSpec.upto coverPartsSpec)) coverPartsUptoCard

/-- THE SECOND FORM's CARD OF 'apiarylaw10.CoverBounds'. -/
def coverBoundsUptoCard : Claim7 := { stood := { row := coverBoundsUptoRow, standIns := [], harness := (true, "f4a72e73768090b01a078c351964f5f1ccb34c8d11197c960644c1c4aba5bce7"), looks := true }, kinds := [], alts := [], laidByText := true, laidKinds := [.data, .data, .data], laidTests := true, laidLooks := .later }
def CoverBoundsUptoCardSaid : Prop := Claim7.holds Tryz.pinned (.plain (OpenSpec.upto coverBoundsSpec)) coverBoundsUptoCard
end Rows
end Go.Proofs.YtdklpgphmoaniabGreatDoor
