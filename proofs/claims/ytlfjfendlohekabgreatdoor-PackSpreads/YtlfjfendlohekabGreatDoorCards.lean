/-
  DERIVED. GIVEN WITH THE SEED: THE CARDS: each row of YtlfjfendlohekabGreatDoorRows.lean that lists a variable, with what it lists TIED to the program's text (the seventh form; the later family's looks); each row that meets fmt, with fmt's text TOLD by the authors' own Lean function (tested against real Go, not proved from fmt's source: count such statements apart). THE CARD IS WHAT COUNTS. Prove the row's statement (the work); the ties are given (YtlfjfendlohekabGreatDoorTie.lean); close each card by the builder's one call (the guide's Derived/Test/ToyasCard.lean, 'card_holds'). Laid BY PROGRAM, IN A SANDBOX (cutbox-door.mjs). By AI agents, Wed Nov 11 2026. No macro, syntax, notation, axiom, sorry.
-/
import Derived.Test.YtlfjfendlohekabGreatDoorRows
import GoSem.ClaimSeven
namespace Go.Proofs.YtlfjfendlohekabGreatDoor
namespace Rows

/-- THE TIED CARD OF 'apiarylaw8.PackOnce'. -/
def packOnceCard : Claim7 := { stood := { row := packOnceRow, standIns := [], harness := (true, "c11fcbcecdfa212b8adcfb1d5e8871dc52915c965de456e0e34d4019cc230f30"), looks := true }, kinds := [], alts := [], laidByText := true, laidKinds := [.data, .data], laidTests := true, laidLooks := .later }
def PackOnceCardSaid : Prop := Claim7.holds Tryz.pinned (.plain (OpenSpec.ofChange packOnceSpec)) packOnceCard

/-- THE TIED CARD OF 'apiarylaw8.PackSpreads'. -/
def packSpreadsCard : Claim7 := { stood := { row := packSpreadsRow, standIns := [], harness := (true, "c11fcbcecdfa212b8adcfb1d5e8871dc52915c965de456e0e34d4019cc230f30"), looks := true }, kinds := [], alts := [], laidByText := true, laidKinds := [.data, .data], laidTests := true, laidLooks := .later }
def PackSpreadsCardSaid : Prop := Claim7.holds Tryz.pinned (.plain (OpenSpec.ofChange packSpreadsSpec)) packSpreadsCard

/-- THE TIED CARD OF 'apiarylaw8.PackBounds'. -/
def packBoundsCard : Claim7 := { stood := { row := packBoundsRow, standIns := [], harness := (true, "c11fcbcecdfa212b8adcfb1d5e8871dc52915c965de456e0e34d4019cc230f30"), looks := true }, kinds := [], alts := [], laidByText := true, laidKinds := [.data, .data], laidTests := true, laidLooks := .later }
def PackBoundsCardSaid : Prop := Claim7.holds Tryz.pinned (.plain (OpenSpec.ofChange packBoundsSpec)) packBoundsCard

/-- THE SECOND FORM's CARD OF 'apiarylaw8.PackOnce'. -/
def packOnceUptoCard : Claim7 := { stood := { row := packOnceUptoRow, standIns := [], harness := (true, "c11fcbcecdfa212b8adcfb1d5e8871dc52915c965de456e0e34d4019cc230f30"), looks := true }, kinds := [], alts := [], laidByText := true, laidKinds := [.data, .data], laidTests := true, laidLooks := .later }
def PackOnceUptoCardSaid : Prop := Claim7.holds Tryz.pinned (.plain (OpenSpec.upto packOnceSpec)) packOnceUptoCard

/-- THE SECOND FORM's CARD OF 'apiarylaw8.PackSpreads'. -/
def packSpreadsUptoCard : Claim7 := { stood := { row := packSpreadsUptoRow, standIns := [], harness := (true, "c11fcbcecdfa212b8adcfb1d5e8871dc52915c965de456e0e34d4019cc230f30"), looks := true }, kinds := [], alts := [], laidByText := true, laidKinds := [.data, .data], laidTests := true, laidLooks := .later }
def PackSpreadsUptoCardSaid : Prop := Claim7.holds Tryz.pinned (.plain (OpenSpec.upto packSpreadsSpec)) packSpreadsUptoCard

/-- THE SECOND FORM's CARD OF 'apiarylaw8.PackBounds'. -/
def packBoundsUptoCard : Claim7 := { stood := { row := packBoundsUptoRow, standIns := [], harness := (true, "c11fcbcecdfa212b8adcfb1d5e8871dc52915c965de456e0e34d4019cc230f30"), looks := true }, kinds := [], alts := [], laidByText := true, laidKinds := [.data, .data], laidTests := true, laidLooks := .later }
def PackBoundsUptoCardSaid : Prop := Claim7.holds Tryz.pinned (.plain (OpenSpec.upto packBoundsSpec)) packBoundsUptoCard
end Rows
end Go.Proofs.YtlfjfendlohekabGreatDoor
