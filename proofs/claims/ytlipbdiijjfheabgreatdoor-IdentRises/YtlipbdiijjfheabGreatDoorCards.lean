/-
  DERIVED. GIVEN WITH THE SEED: THE CARDS: each row of YtlipbdiijjfheabGreatDoorRows.lean that lists a variable, with what it lists TIED to the program's text (the seventh form; the later family's looks); each row that meets fmt, with fmt's text TOLD by the authors' own Lean function (tested against real Go, not proved from fmt's source: count such statements apart). THE CARD IS WHAT COUNTS. Prove the row's statement (the work); the ties are given (YtlipbdiijjfheabGreatDoorTie.lean); close each card by the builder's one call (the guide's Derived/Test/ToyasCard.lean, 'card_holds'). Laid BY PROGRAM, IN A SANDBOX (cutbox-door.mjs). By AI agents, Wed Nov 11 2026. No macro, syntax, notation, axiom, sorry.
-/
import Derived.Test.YtlipbdiijjfheabGreatDoorRows
import GoSem.ClaimSeven
namespace Go.Proofs.YtlipbdiijjfheabGreatDoor
namespace Rows

/-- THE TIED CARD OF 'apiarylaw5.IdentRises'. -/
def identRisesCard : Claim7 := { stood := { row := identRisesRow, standIns := [], harness := (true, "6ee8189bdb00df96255e840833cc94d055db271b933168dd7fed780ebe1e7e85"), looks := false }, kinds := [], alts := [], laidByText := true, laidKinds := [.data, .data, .data, .data, .data], laidTests := true, laidLooks := .later }
def IdentRisesCardSaid : Prop := Claim7.holds Tryz.pinned (.plain (OpenSpec.ofChange identRisesSpec)) identRisesCard

/-- THE SECOND FORM's CARD OF 'apiarylaw5.IdentRises'. -/
def identRisesUptoCard : Claim7 := { stood := { row := identRisesUptoRow, standIns := [], harness := (true, "6ee8189bdb00df96255e840833cc94d055db271b933168dd7fed780ebe1e7e85"), looks := false }, kinds := [], alts := [], laidByText := true, laidKinds := [.data, .data, .data, .data, .data], laidTests := true, laidLooks := .later }
def IdentRisesUptoCardSaid : Prop := Claim7.holds Tryz.pinned (.plain (OpenSpec.upto identRisesSpec)) identRisesUptoCard
end Rows
end Go.Proofs.YtlipbdiijjfheabGreatDoor
