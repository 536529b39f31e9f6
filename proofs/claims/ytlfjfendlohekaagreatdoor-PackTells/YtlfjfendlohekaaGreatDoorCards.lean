/-
  DERIVED. GIVEN WITH THE SEED: THE CARDS: each row of YtlfjfendlohekaaGreatDoorRows.lean that lists a variable, with what it lists TIED to the program's text (the seventh form; the later family's looks); each row that meets fmt, with fmt's text TOLD by the authors' own Lean function (tested against real Go, not proved from fmt's source: count such statements apart). THE CARD IS WHAT COUNTS. Prove the row's statement (the work); the ties are given (YtlfjfendlohekaaGreatDoorTie.lean); close each card by the builder's one call (the guide's Derived/Test/ToyasCard.lean, 'card_holds'). Laid BY PROGRAM, IN A SANDBOX (cutbox-door.mjs). By AI agents, Wed Nov 11 2026. No macro, syntax, notation, axiom, sorry.
-/
import Derived.Test.YtlfjfendlohekaaGreatDoorRows
import GoSem.ClaimSeven
namespace Go.Proofs.YtlfjfendlohekaaGreatDoor
namespace Rows

/-- THE TIED CARD OF 'apiarylaw8.PackCovers'. -/
def packCoversCard : Claim7 := { stood := { row := packCoversRow, standIns := [], harness := (true, "8062173a2791e92dfea2da35dba0cf9a1271b8fbe6aa116b653b2c4867c18e2d"), looks := true }, kinds := [], alts := [], laidByText := true, laidKinds := [.data, .data], laidTests := true, laidLooks := .later }
def PackCoversCardSaid : Prop := Claim7.holds Tryz.pinned (.plain (OpenSpec.ofChange packCoversSpec)) packCoversCard

/-- THE TIED CARD OF 'apiarylaw8.PackLess'. -/
def packLessCard : Claim7 := { stood := { row := packLessRow, standIns := [], harness := (true, "8062173a2791e92dfea2da35dba0cf9a1271b8fbe6aa116b653b2c4867c18e2d"), looks := true }, kinds := [], alts := [], laidByText := true, laidKinds := [.data, .data], laidTests := true, laidLooks := .later }
def PackLessCardSaid : Prop := Claim7.holds Tryz.pinned (.plain (OpenSpec.ofChange packLessSpec)) packLessCard

/-- THE TIED CARD OF 'apiarylaw8.PackErrors'. -/
def packErrorsCard : Claim7 := { stood := { row := packErrorsRow, standIns := [], harness := (true, "8062173a2791e92dfea2da35dba0cf9a1271b8fbe6aa116b653b2c4867c18e2d"), looks := true }, kinds := [], alts := [], laidByText := true, laidKinds := [.data, .data], laidTests := true, laidLooks := .later }
def PackErrorsCardSaid : Prop := Claim7.holds Tryz.pinned (.plain (OpenSpec.ofChange packErrorsSpec)) packErrorsCard

/-- THE TIED CARD OF 'apiarylaw8.PackJoins'. -/
def packJoinsCard : Claim7 := { stood := { row := packJoinsRow, standIns := [], harness := (true, "8062173a2791e92dfea2da35dba0cf9a1271b8fbe6aa116b653b2c4867c18e2d"), looks := true }, kinds := [], alts := [], laidByText := true, laidKinds := [.data, .data], laidTests := true, laidLooks := .later }
def PackJoinsCardSaid : Prop := Claim7.holds Tryz.pinned (.plain (OpenSpec.ofChange packJoinsSpec)) packJoinsCard

/-- THE TIED CARD OF 'apiarylaw8.PackTells'. -/
def packTellsCard : Claim7 := { stood := { row := packTellsRow, standIns := [], harness := (true, "8062173a2791e92dfea2da35dba0cf9a1271b8fbe6aa116b653b2c4867c18e2d"), looks := true }, kinds := [], alts := [], laidByText := true, laidKinds := [.data, .data], laidTests := true, laidLooks := .later }
def PackTellsCardSaid : Prop := Claim7.holds Tryz.pinned (.plain (OpenSpec.ofChange packTellsSpec)) packTellsCard

/-- THE TIED CARD OF 'apiarylaw8.PackBack'. -/
def packBackCard : Claim7 := { stood := { row := packBackRow, standIns := [], harness := (true, "8062173a2791e92dfea2da35dba0cf9a1271b8fbe6aa116b653b2c4867c18e2d"), looks := true }, kinds := [], alts := [], laidByText := true, laidKinds := [.data, .data], laidTests := true, laidLooks := .later }
def PackBackCardSaid : Prop := Claim7.holds Tryz.pinned (.plain (OpenSpec.ofChange packBackSpec)) packBackCard

/-- THE SECOND FORM's CARD OF 'apiarylaw8.PackCovers'. -/
def packCoversUptoCard : Claim7 := { stood := { row := packCoversUptoRow, standIns := [], harness := (true, "8062173a2791e92dfea2da35dba0cf9a1271b8fbe6aa116b653b2c4867c18e2d"), looks := true }, kinds := [], alts := [], laidByText := true, laidKinds := [.data, .data], laidTests := true, laidLooks := .later }
def PackCoversUptoCardSaid : Prop := Claim7.holds Tryz.pinned (.plain (OpenSpec.upto packCoversSpec)) packCoversUptoCard

/-- THE SECOND FORM's CARD OF 'apiarylaw8.PackLess'. -/
def packLessUptoCard : Claim7 := { stood := { row := packLessUptoRow, standIns := [], harness := (true, "8062173a2791e92dfea2da35dba0cf9a1271b8fbe6aa116b653b2c4867c18e2d"), looks := true }, kinds := [], alts := [], laidByText := true, laidKinds := [.data, .data], laidTests := true, laidLooks := .later }
def PackLessUptoCardSaid : Prop := Claim7.holds Tryz.pinned (.plain (OpenSpec.upto packLessSpec)) packLessUptoCard

/-- THE SECOND FORM's CARD OF 'apiarylaw8.PackErrors'. -/
def packErrorsUptoCard : Claim7 := { stood := { row := packErrorsUptoRow, standIns := [], harness := (true, "8062173a2791e92dfea2da35dba0cf9a1271b8fbe6aa116b653b2c4867c18e2d"), looks := true }, kinds := [], alts := [], laidByText := true, laidKinds := [.data, .data], laidTests := true, laidLooks := .later }
def PackErrorsUptoCardSaid : Prop := Claim7.holds Tryz.pinned (.plain (OpenSpec.upto packErrorsSpec)) packErrorsUptoCard

/-- THE SECOND FORM's CARD OF 'apiarylaw8.PackJoins'. -/
def packJoinsUptoCard : Claim7 := { stood := { row := packJoinsUptoRow, standIns := [], harness := (true, "8062173a2791e92dfea2da35dba0cf9a1271b8fbe6aa116b653b2c4867c18e2d"), looks := true }, kinds := [], alts := [], laidByText := true, laidKinds := [.data, .data], laidTests := true, laidLooks := .later }
def PackJoinsUptoCardSaid : Prop := Claim7.holds Tryz.pinned (.plain (OpenSpec.upto packJoinsSpec)) packJoinsUptoCard

/-- THE SECOND FORM's CARD OF 'apiarylaw8.PackTells'. -/
def packTellsUptoCard : Claim7 := { stood := { row := packTellsUptoRow, standIns := [], harness := (true, "8062173a2791e92dfea2da35dba0cf9a1271b8fbe6aa116b653b2c4867c18e2d"), looks := true }, kinds := [], alts := [], laidByText := true, laidKinds := [.data, .data], laidTests := true, laidLooks := .later }
def PackTellsUptoCardSaid : Prop := Claim7.holds Tryz.pinned (.plain (OpenSpec.upto packTellsSpec)) packTellsUptoCard

/-- THE SECOND FORM's CARD OF 'apiarylaw8.PackBack'. -/
def packBackUptoCard : Claim7 := { stood := { row := packBackUptoRow, standIns := [], harness := (true, "8062173a2791e92dfea2da35dba0cf9a1271b8fbe6aa116b653b2c4867c18e2d"), looks := true }, kinds := [], alts := [], laidByText := true, laidKinds := [.data, .data], laidTests := true, laidLooks := .later }
def PackBackUptoCardSaid : Prop := Claim7.holds Tryz.pinned (.plain (OpenSpec.upto packBackSpec)) packBackUptoCard
end Rows
end Go.Proofs.YtlfjfendlohekaaGreatDoor
