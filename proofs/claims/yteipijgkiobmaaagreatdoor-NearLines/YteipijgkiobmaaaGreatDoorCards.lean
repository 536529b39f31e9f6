/-
  DERIVED. GIVEN WITH THE SEED: THE CARDS: each row of YteipijgkiobmaaaGreatDoorRows.lean that lists a variable, with what it lists TIED to the program's text (the seventh form; the later family's looks); each row that meets fmt, with fmt's text TOLD by the authors' own Lean function (tested against real Go, not proved from fmt's source: count such statements apart). THE CARD IS WHAT COUNTS. Prove the row's statement (the work); the ties are given (YteipijgkiobmaaaGreatDoorTie.lean); close each card by the builder's one call (the guide's Derived/Test/ToyasCard.lean, 'card_holds'). Laid BY PROGRAM, IN A SANDBOX (cutbox-door.mjs). By AI agents, Wed Nov 11 2026. No macro, syntax, notation, axiom, sorry.
-/
import Derived.Test.YteipijgkiobmaaaGreatDoorRows
import GoSem.ClaimSeven
namespace Go.Proofs.YteipijgkiobmaaaGreatDoor
namespace Rows

/-- THE TIED CARD OF 'apiarylaw6.NearBack'. -/
def nearBackCard : Claim7 := { stood := { row := nearBackRow, standIns := [], harness := (true, "27bafe68328b7faa6a72246215de84e1f732776b16f51812c4fab835e87a25c3"), looks := false }, kinds := [], alts := [], laidByText := true, laidKinds := [.data, .data], laidTests := true, laidLooks := .later }
def NearBackCardSaid : Prop := Claim7.holds Tryz.pinned (.plain (OpenSpec.ofChange nearBackSpec)) nearBackCard

/-- THE TIED CARD OF 'apiarylaw6.NearKids'. -/
def nearKidsCard : Claim7 := { stood := { row := nearKidsRow, standIns := [], harness := (true, "27bafe68328b7faa6a72246215de84e1f732776b16f51812c4fab835e87a25c3"), looks := false }, kinds := [], alts := [], laidByText := true, laidKinds := [.data, .data], laidTests := true, laidLooks := .later }
def NearKidsCardSaid : Prop := Claim7.holds Tryz.pinned (.plain (OpenSpec.ofChange nearKidsSpec)) nearKidsCard

/-- THE TIED CARD OF 'apiarylaw6.NearRings'. -/
def nearRingsCard : Claim7 := { stood := { row := nearRingsRow, standIns := [], harness := (true, "27bafe68328b7faa6a72246215de84e1f732776b16f51812c4fab835e87a25c3"), looks := false }, kinds := [], alts := [], laidByText := true, laidKinds := [.data, .data], laidTests := true, laidLooks := .later }
def NearRingsCardSaid : Prop := Claim7.holds Tryz.pinned (.plain (OpenSpec.ofChange nearRingsSpec)) nearRingsCard

/-- THE TIED CARD OF 'apiarylaw6.NearTells'. -/
def nearTellsCard : Claim7 := { stood := { row := nearTellsRow, standIns := [], harness := (true, "27bafe68328b7faa6a72246215de84e1f732776b16f51812c4fab835e87a25c3"), looks := false }, kinds := [], alts := [], laidByText := true, laidKinds := [.data, .data], laidTests := true, laidLooks := .later }
def NearTellsCardSaid : Prop := Claim7.holds Tryz.pinned (.plain (OpenSpec.ofChange nearTellsSpec)) nearTellsCard

/-- THE TIED CARD OF 'apiarylaw6.NearLines'. -/
def nearLinesCard : Claim7 := { stood := { row := nearLinesRow, standIns := [], harness := (true, "27bafe68328b7faa6a72246215de84e1f732776b16f51812c4fab835e87a25c3"), looks := false }, kinds := [], alts := [], laidByText := true, laidKinds := [.data, .data], laidTests := true, laidLooks := .later }
def NearLinesCardSaid : Prop := Claim7.holds Tryz.pinned (.plain (OpenSpec.ofChange nearLinesSpec)) nearLinesCard

/-- THE SECOND FORM's CARD OF 'apiarylaw6.NearBack'. -/
def nearBackUptoCard : Claim7 := { stood := { row := nearBackUptoRow, standIns := [], harness := (true, "27bafe68328b7faa6a72246215de84e1f732776b16f51812c4fab835e87a25c3"), looks := false }, kinds := [], alts := [], laidByText := true, laidKinds := [.data, .data], laidTests := true, laidLooks := .later }
def NearBackUptoCardSaid : Prop := Claim7.holds Tryz.pinned (.plain (OpenSpec.upto nearBackSpec)) nearBackUptoCard

/-- THE SECOND FORM's CARD OF 'apiarylaw6.NearKids'. -/
def nearKidsUptoCard : Claim7 := { stood := { row := nearKidsUptoRow, standIns := [], harness := (true, "27bafe68328b7faa6a72246215de84e1f732776b16f51812c4fab835e87a25c3"), looks := false }, kinds := [], alts := [], laidByText := true, laidKinds := [.data, .data], laidTests := true, laidLooks := .later }
def NearKidsUptoCardSaid : Prop := Claim7.holds Tryz.pinned (.plain (OpenSpec.upto nearKidsSpec)) nearKidsUptoCard

/-- THE SECOND FORM's CARD OF 'apiarylaw6.NearRings'. -/
def nearRingsUptoCard : Claim7 := { stood := { row := nearRingsUptoRow, standIns := [], harness := (true, "27bafe68328b7faa6a72246215de84e1f732776b16f51812c4fab835e87a25c3"), looks := false }, kinds := [], alts := [], laidByText := true, laidKinds := [.data, .data], laidTests := true, laidLooks := .later }
def NearRingsUptoCardSaid : Prop := Claim7.holds Tryz.pinned (.plain (OpenSpec.upto nearRingsSpec)) nearRingsUptoCard

/-- THE SECOND FORM's CARD OF 'apiarylaw6.NearTells'. -/
def nearTellsUptoCard : Claim7 := { stood := { row := nearTellsUptoRow, standIns := [], harness := (true, "27bafe68328b7faa6a72246215de84e1f732776b16f51812c4fab835e87a25c3"), looks := false }, kinds := [], alts := [], laidByText := true, laidKinds := [.data, .data], laidTests := true, laidLooks := .later }
def NearTellsUptoCardSaid : Prop := Claim7.holds Tryz.pinned (.plain (OpenSpec.upto nearTellsSpec)) nearTellsUptoCard

/-- THE SECOND FORM's CARD OF 'apiarylaw6.NearLines'. -/
def nearLinesUptoCard : Claim7 := { stood := { row := nearLinesUptoRow, standIns := [], harness := (true, "27bafe68328b7faa6a72246215de84e1f732776b16f51812c4fab835e87a25c3"), looks := false }, kinds := [], alts := [], laidByText := true, laidKinds := [.data, .data], laidTests := true, laidLooks := .later }
def NearLinesUptoCardSaid : Prop := Claim7.holds Tryz.pinned (.plain (OpenSpec.upto nearLinesSpec)) nearLinesUptoCard
end Rows
end Go.Proofs.YteipijgkiobmaaaGreatDoor
