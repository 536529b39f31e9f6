/-
  DERIVED. GIVEN WITH THE SEED: THE CARDS: each row of YtlipbdiijjfheabDoorRows.lean that lists a variable, with what it lists TIED to the program's text (the seventh form; the later family's looks); each row that meets fmt, with fmt's text TOLD by the authors' own Lean function (tested against real Go, not proved from fmt's source: count such statements apart). THE CARD IS WHAT COUNTS. Prove the row's statement (the work); the ties are given (YtlipbdiijjfheabDoorTie.lean); close each card by the builder's one call (the guide's Derived/Test/ToyasCard.lean, 'card_holds'). Laid BY PROGRAM, IN A SANDBOX (cutbox-door.mjs). By AI agents, Wed Nov 11 2026. No macro, syntax, notation, axiom, sorry.
-/
import Derived.Test.YtlipbdiijjfheabDoorRows
import GoSem.ClaimSeven
namespace Go.Proofs.YtlipbdiijjfheabDoor
namespace Rows

/-- THE TIED CARD OF 'apiarylaw5.IdentDigits'. -/
def identDigitsCard : Claim7 := { stood := { row := identDigitsRow, standIns := [], harness := (true, "aab8f8834ae2bc05eec7239e835bba0f4a25177756309505b2a37d90338ea4e6"), looks := false }, kinds := [], alts := [], laidByText := true, laidKinds := [.data, .data, .data, .data, .data], laidTests := true, laidLooks := .later }
def IdentDigitsCardSaid : Prop := Claim7.holds Tryd.pinned (.plain (OpenSpec.ofChange identDigitsSpec)) identDigitsCard

/-- THE SECOND FORM's CARD OF 'apiarylaw5.IdentDigits'. -/
def identDigitsUptoCard : Claim7 := { stood := { row := identDigitsUptoRow, standIns := [], harness := (true, "aab8f8834ae2bc05eec7239e835bba0f4a25177756309505b2a37d90338ea4e6"), looks := false }, kinds := [], alts := [], laidByText := true, laidKinds := [.data, .data, .data, .data, .data], laidTests := true, laidLooks := .later }
def IdentDigitsUptoCardSaid : Prop := Claim7.holds Tryd.pinned (.plain (OpenSpec.upto identDigitsSpec)) identDigitsUptoCard
end Rows
end Go.Proofs.YtlipbdiijjfheabDoor
