/-
  DERIVED. GIVEN WITH THE SEED: THE CARDS: each row of YtchcidhcefblpabDoorRows.lean that lists a variable, with what it lists TIED to the program's text (the seventh form; the later family's looks); each row that meets fmt, with fmt's text TOLD by the authors' own Lean function (tested against real Go, not proved from fmt's source: count such statements apart). THE CARD IS WHAT COUNTS. Prove the row's statement (the work); the ties are given (YtchcidhcefblpabDoorTie.lean); close each card by the builder's one call (the guide's Derived/Test/ToyasCard.lean, 'card_holds'). Laid BY PROGRAM, IN A SANDBOX (cutbox-door.mjs). By AI agents, Wed Nov 11 2026. No macro, syntax, notation, axiom, sorry.
-/
import Derived.Test.YtchcidhcefblpabDoorRows
import GoSem.ClaimSeven
namespace Go.Proofs.YtchcidhcefblpabDoor
namespace Rows

/-- THE TIED CARD OF 'apiarylaw3.PlaneHolds'. -/
def planeHoldsCard : Claim7 := { stood := { row := planeHoldsRow, standIns := [], harness := (true, "a76ea6aabec4e8f42548f1737aa020796a8dec73633bcfcbd87da118bf500f3a"), looks := false }, kinds := [], alts := [], laidByText := true, laidKinds := [.data], laidTests := true, laidLooks := .later }
def PlaneHoldsCardSaid : Prop := Claim7.holds Tryd.pinned (.plain (OpenSpec.ofChange planeHoldsSpec)) planeHoldsCard

/-- THE TIED CARD OF 'apiarylaw3.PlaneCorners'. -/
def planeCornersCard : Claim7 := { stood := { row := planeCornersRow, standIns := [], harness := (true, "a76ea6aabec4e8f42548f1737aa020796a8dec73633bcfcbd87da118bf500f3a"), looks := false }, kinds := [], alts := [], laidByText := true, laidKinds := [.data], laidTests := true, laidLooks := .later }
def PlaneCornersCardSaid : Prop := Claim7.holds Tryd.pinned (.plain (OpenSpec.ofChange planeCornersSpec)) planeCornersCard

/-- THE SECOND FORM's CARD OF 'apiarylaw3.PlaneHolds'. -/
def planeHoldsUptoCard : Claim7 := { stood := { row := planeHoldsUptoRow, standIns := [], harness := (true, "a76ea6aabec4e8f42548f1737aa020796a8dec73633bcfcbd87da118bf500f3a"), looks := false }, kinds := [], alts := [], laidByText := true, laidKinds := [.data], laidTests := true, laidLooks := .later }
def PlaneHoldsUptoCardSaid : Prop := Claim7.holds Tryd.pinned (.plain (OpenSpec.upto planeHoldsSpec)) planeHoldsUptoCard

/-- THE SECOND FORM's CARD OF 'apiarylaw3.PlaneCorners'. -/
def planeCornersUptoCard : Claim7 := { stood := { row := planeCornersUptoRow, standIns := [], harness := (true, "a76ea6aabec4e8f42548f1737aa020796a8dec73633bcfcbd87da118bf500f3a"), looks := false }, kinds := [], alts := [], laidByText := true, laidKinds := [.data], laidTests := true, laidLooks := .later }
def PlaneCornersUptoCardSaid : Prop := Claim7.holds Tryd.pinned (.plain (OpenSpec.upto planeCornersSpec)) planeCornersUptoCard
end Rows
end Go.Proofs.YtchcidhcefblpabDoor
