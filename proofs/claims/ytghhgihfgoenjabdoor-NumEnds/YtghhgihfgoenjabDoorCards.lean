/-
  DERIVED. GIVEN WITH THE SEED: THE CARDS: each row of YtghhgihfgoenjabDoorRows.lean that lists a variable, with what it lists TIED to the program's text (the seventh form; the later family's looks); each row that meets fmt, with fmt's text TOLD by the authors' own Lean function (tested against real Go, not proved from fmt's source: count such statements apart). THE CARD IS WHAT COUNTS. Prove the row's statement (the work); the ties are given (YtghhgihfgoenjabDoorTie.lean); close each card by the builder's one call (the guide's Derived/Test/ToyasCard.lean, 'card_holds'). Laid BY PROGRAM, IN A SANDBOX (cutbox-door.mjs). By AI agents, Wed Nov 11 2026. No macro, syntax, notation, axiom, sorry.
-/
import Derived.Test.YtghhgihfgoenjabDoorRows
import GoSem.ClaimSeven
namespace Go.Proofs.YtghhgihfgoenjabDoor
namespace Rows

/-- THE TIED CARD OF 'apiarylaw1.NumEnds'. -/
def numEndsCard : Claim7 := { stood := { row := numEndsRow, standIns := [], harness := (true, "1d342bcf5b9792de8fa5c8c8e0f33ef572a5893a071aa8cccf08a4b7a00a59b8"), looks := false }, kinds := [], alts := [], laidByText := true, laidKinds := [.data, .data, .data], laidTests := true, laidLooks := .later }
def NumEndsCardSaid : Prop := Claim7.holds Tryd.pinned (.plain (OpenSpec.ofChange numEndsSpec)) numEndsCard

/-- THE SECOND FORM's CARD OF 'apiarylaw1.NumEnds'. -/
def numEndsUptoCard : Claim7 := { stood := { row := numEndsUptoRow, standIns := [], harness := (true, "1d342bcf5b9792de8fa5c8c8e0f33ef572a5893a071aa8cccf08a4b7a00a59b8"), looks := false }, kinds := [], alts := [], laidByText := true, laidKinds := [.data, .data, .data], laidTests := true, laidLooks := .later }
def NumEndsUptoCardSaid : Prop := Claim7.holds Tryd.pinned (.plain (OpenSpec.upto numEndsSpec)) numEndsUptoCard
end Rows
end Go.Proofs.YtghhgihfgoenjabDoor
