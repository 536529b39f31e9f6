/-
  DERIVED. GIVEN WITH THE SEED: THE CARDS: each row of YtchcidhcefblpaaDoorRows.lean that lists a variable, with what it lists TIED to the program's text (the seventh form; the later family's looks); each row that meets fmt, with fmt's text TOLD by the authors' own Lean function (tested against real Go, not proved from fmt's source: count such statements apart). THE CARD IS WHAT COUNTS. Prove the row's statement (the work); the ties are given (YtchcidhcefblpaaDoorTie.lean); close each card by the builder's one call (the guide's Derived/Test/ToyasCard.lean, 'card_holds'). Laid BY PROGRAM, IN A SANDBOX (cutbox-door.mjs). By AI agents, Wed Nov 11 2026. No macro, syntax, notation, axiom, sorry.
-/
import Derived.Test.YtchcidhcefblpaaDoorRows
import GoSem.ClaimSeven
namespace Go.Proofs.YtchcidhcefblpaaDoor
namespace Rows

/-- THE TIED CARD OF 'apiarylaw3.PlaneBounds'. -/
def planeBoundsCard : Claim7 := { stood := { row := planeBoundsRow, standIns := [], harness := (true, "a1a04b374e5674f97fabe3381a1f8d10c1705d9a6ead1531d9f5bfd229d43cf4"), looks := false }, kinds := [], alts := [], laidByText := true, laidKinds := [.data], laidTests := true, laidLooks := .later }
def PlaneBoundsCardSaid : Prop := Claim7.holds Tryd.pinned (.plain (OpenSpec.ofChange planeBoundsSpec)) planeBoundsCard

/-- THE TIED CARD OF 'apiarylaw3.PlaneCentres'. -/
def planeCentresCard : Claim7 := { stood := { row := planeCentresRow, standIns := [], harness := (true, "a1a04b374e5674f97fabe3381a1f8d10c1705d9a6ead1531d9f5bfd229d43cf4"), looks := false }, kinds := [], alts := [], laidByText := true, laidKinds := [.data], laidTests := true, laidLooks := .later }
def PlaneCentresCardSaid : Prop := Claim7.holds Tryd.pinned (.plain (OpenSpec.ofChange planeCentresSpec)) planeCentresCard

/-- THE SECOND FORM's CARD OF 'apiarylaw3.PlaneBounds'. -/
def planeBoundsUptoCard : Claim7 := { stood := { row := planeBoundsUptoRow, standIns := [], harness := (true, "a1a04b374e5674f97fabe3381a1f8d10c1705d9a6ead1531d9f5bfd229d43cf4"), looks := false }, kinds := [], alts := [], laidByText := true, laidKinds := [.data], laidTests := true, laidLooks := .later }
def PlaneBoundsUptoCardSaid : Prop := Claim7.holds Tryd.pinned (.plain (OpenSpec.upto planeBoundsSpec)) planeBoundsUptoCard

/-- THE SECOND FORM's CARD OF 'apiarylaw3.PlaneCentres'. -/
def planeCentresUptoCard : Claim7 := { stood := { row := planeCentresUptoRow, standIns := [], harness := (true, "a1a04b374e5674f97fabe3381a1f8d10c1705d9a6ead1531d9f5bfd229d43cf4"), looks := false }, kinds := [], alts := [], laidByText := true, laidKinds := [.data], laidTests := true, laidLooks := .later }
def PlaneCentresUptoCardSaid : Prop := Claim7.holds Tryd.pinned (.plain (OpenSpec.upto planeCentresSpec)) planeCentresUptoCard
end Rows
end Go.Proofs.YtchcidhcefblpaaDoor
