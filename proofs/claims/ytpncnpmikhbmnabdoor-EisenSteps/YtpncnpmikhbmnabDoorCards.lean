/-
  DERIVED. GIVEN WITH THE SEED: THE CARDS: each row of YtpncnpmikhbmnabDoorRows.lean that lists a variable, with what it lists TIED to the program's text (the seventh form; the later family's looks); each row that meets fmt, with fmt's text TOLD by the authors' own Lean function (tested against real Go, not proved from fmt's source: count such statements apart). THE CARD IS WHAT COUNTS. Prove the row's statement (the work); the ties are given (YtpncnpmikhbmnabDoorTie.lean); close each card by the builder's one call (the guide's Derived/Test/ToyasCard.lean, 'card_holds'). Laid BY PROGRAM, IN A SANDBOX (cutbox-door.mjs). By AI agents, Wed Nov 11 2026. No macro, syntax, notation, axiom, sorry.
-/
import Derived.Test.YtpncnpmikhbmnabDoorRows
import GoSem.ClaimSeven
namespace Go.Proofs.YtpncnpmikhbmnabDoor
namespace Rows

/-- THE TIED CARD OF 'apiarylaw2.EisenRounds'. -/
def eisenRoundsCard : Claim7 := { stood := { row := eisenRoundsRow, standIns := [], harness := (true, "c45d08595a6f9b32ac038c42172c52e6c17c38d37f2a879d594d7f2802d9eb87"), looks := false }, kinds := [], alts := [], laidByText := true, laidKinds := [.data], laidTests := true, laidLooks := .later }
def EisenRoundsCardSaid : Prop := Claim7.holds Tryd.pinned (.plain (OpenSpec.ofChange eisenRoundsSpec)) eisenRoundsCard

/-- THE TIED CARD OF 'apiarylaw2.EisenNear'. -/
def eisenNearCard : Claim7 := { stood := { row := eisenNearRow, standIns := [], harness := (true, "c45d08595a6f9b32ac038c42172c52e6c17c38d37f2a879d594d7f2802d9eb87"), looks := false }, kinds := [], alts := [], laidByText := true, laidKinds := [.data], laidTests := true, laidLooks := .later }
def EisenNearCardSaid : Prop := Claim7.holds Tryd.pinned (.plain (OpenSpec.ofChange eisenNearSpec)) eisenNearCard

/-- THE TIED CARD OF 'apiarylaw2.EisenRing'. -/
def eisenRingCard : Claim7 := { stood := { row := eisenRingRow, standIns := [], harness := (true, "c45d08595a6f9b32ac038c42172c52e6c17c38d37f2a879d594d7f2802d9eb87"), looks := false }, kinds := [], alts := [], laidByText := true, laidKinds := [.data], laidTests := true, laidLooks := .later }
def EisenRingCardSaid : Prop := Claim7.holds Tryd.pinned (.plain (OpenSpec.ofChange eisenRingSpec)) eisenRingCard

/-- THE TIED CARD OF 'apiarylaw2.EisenSteps'. -/
def eisenStepsCard : Claim7 := { stood := { row := eisenStepsRow, standIns := [], harness := (true, "c45d08595a6f9b32ac038c42172c52e6c17c38d37f2a879d594d7f2802d9eb87"), looks := false }, kinds := [], alts := [], laidByText := true, laidKinds := [.data], laidTests := true, laidLooks := .later }
def EisenStepsCardSaid : Prop := Claim7.holds Tryd.pinned (.plain (OpenSpec.ofChange eisenStepsSpec)) eisenStepsCard

/-- THE SECOND FORM's CARD OF 'apiarylaw2.EisenRounds'. -/
def eisenRoundsUptoCard : Claim7 := { stood := { row := eisenRoundsUptoRow, standIns := [], harness := (true, "c45d08595a6f9b32ac038c42172c52e6c17c38d37f2a879d594d7f2802d9eb87"), looks := false }, kinds := [], alts := [], laidByText := true, laidKinds := [.data], laidTests := true, laidLooks := .later }
def EisenRoundsUptoCardSaid : Prop := Claim7.holds Tryd.pinned (.plain (OpenSpec.upto eisenRoundsSpec)) eisenRoundsUptoCard

/-- THE SECOND FORM's CARD OF 'apiarylaw2.EisenNear'. -/
def eisenNearUptoCard : Claim7 := { stood := { row := eisenNearUptoRow, standIns := [], harness := (true, "c45d08595a6f9b32ac038c42172c52e6c17c38d37f2a879d594d7f2802d9eb87"), looks := false }, kinds := [], alts := [], laidByText := true, laidKinds := [.data], laidTests := true, laidLooks := .later }
def EisenNearUptoCardSaid : Prop := Claim7.holds Tryd.pinned (.plain (OpenSpec.upto eisenNearSpec)) eisenNearUptoCard

/-- THE SECOND FORM's CARD OF 'apiarylaw2.EisenRing'. -/
def eisenRingUptoCard : Claim7 := { stood := { row := eisenRingUptoRow, standIns := [], harness := (true, "c45d08595a6f9b32ac038c42172c52e6c17c38d37f2a879d594d7f2802d9eb87"), looks := false }, kinds := [], alts := [], laidByText := true, laidKinds := [.data], laidTests := true, laidLooks := .later }
def EisenRingUptoCardSaid : Prop := Claim7.holds Tryd.pinned (.plain (OpenSpec.upto eisenRingSpec)) eisenRingUptoCard

/-- THE SECOND FORM's CARD OF 'apiarylaw2.EisenSteps'. -/
def eisenStepsUptoCard : Claim7 := { stood := { row := eisenStepsUptoRow, standIns := [], harness := (true, "c45d08595a6f9b32ac038c42172c52e6c17c38d37f2a879d594d7f2802d9eb87"), looks := false }, kinds := [], alts := [], laidByText := true, laidKinds := [.data], laidTests := true, laidLooks := .later }
def EisenStepsUptoCardSaid : Prop := Claim7.holds Tryd.pinned (.plain (OpenSpec.upto eisenStepsSpec)) eisenStepsUptoCard
end Rows
end Go.Proofs.YtpncnpmikhbmnabDoor
