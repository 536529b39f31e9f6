/-
  DERIVED. GIVEN WITH THE SEED: THE CARDS: each row of YtlipbdiijjfheaaGreatDoorRows.lean that lists a variable, with what it lists TIED to the program's text (the seventh form; the later family's looks); each row that meets fmt, with fmt's text TOLD by the authors' own Lean function (tested against real Go, not proved from fmt's source: count such statements apart). THE CARD IS WHAT COUNTS. Prove the row's statement (the work); the ties are given (YtlipbdiijjfheaaGreatDoorTie.lean); close each card by the builder's one call (the guide's Derived/Test/ToyasCard.lean, 'card_holds'). Laid BY PROGRAM, IN A SANDBOX (cutbox-door.mjs). By AI agents, Wed Nov 11 2026. No macro, syntax, notation, axiom, sorry.
-/
import Derived.Test.YtlipbdiijjfheaaGreatDoorRows
import GoSem.ClaimSeven
namespace Go.Proofs.YtlipbdiijjfheaaGreatDoor
namespace Rows

/-- THE TIED CARD OF 'apiarylaw5.IdentSizes'. -/
def identSizesCard : Claim7 := { stood := { row := identSizesRow, standIns := [], harness := (true, "b4911bfd3b89720cd1857ceb4170a5f179590c5d56b9056768f1f71a16439484"), looks := true }, kinds := [], alts := [], laidByText := true, laidKinds := [.data, .data, .data, .data, .data], laidTests := true, laidLooks := .later }
def IdentSizesCardSaid : Prop := Claim7.holds Tryz.pinned (.plain (OpenSpec.ofChange identSizesSpec)) identSizesCard

/-- THE TIED CARD OF 'apiarylaw5.IdentOne'. -/
def identOneCard : Claim7 := { stood := { row := identOneRow, standIns := [], harness := (true, "b4911bfd3b89720cd1857ceb4170a5f179590c5d56b9056768f1f71a16439484"), looks := true }, kinds := [], alts := [], laidByText := true, laidKinds := [.data, .data, .data, .data, .data], laidTests := true, laidLooks := .later }
def IdentOneCardSaid : Prop := Claim7.holds Tryz.pinned (.plain (OpenSpec.ofChange identOneSpec)) identOneCard

/-- THE TIED CARD OF 'apiarylaw5.IdentBelow'. -/
def identBelowCard : Claim7 := { stood := { row := identBelowRow, standIns := [], harness := (true, "b4911bfd3b89720cd1857ceb4170a5f179590c5d56b9056768f1f71a16439484"), looks := true }, kinds := [], alts := [], laidByText := true, laidKinds := [.data, .data, .data, .data, .data], laidTests := true, laidLooks := .later }
def IdentBelowCardSaid : Prop := Claim7.holds Tryz.pinned (.plain (OpenSpec.ofChange identBelowSpec)) identBelowCard

/-- THE TIED CARD OF 'apiarylaw5.IdentWords'. -/
def identWordsCard : Claim7 := { stood := { row := identWordsRow, standIns := [], harness := (true, "b4911bfd3b89720cd1857ceb4170a5f179590c5d56b9056768f1f71a16439484"), looks := true }, kinds := [], alts := [], laidByText := true, laidKinds := [.data, .data, .data, .data, .data], laidTests := true, laidLooks := .later }
def IdentWordsCardSaid : Prop := Claim7.holds Tryz.pinned (.plain (OpenSpec.ofChange identWordsSpec)) identWordsCard

/-- THE TIED CARD OF 'apiarylaw5.IdentReads'. -/
def identReadsCard : Claim7 := { stood := { row := identReadsRow, standIns := [], harness := (true, "b4911bfd3b89720cd1857ceb4170a5f179590c5d56b9056768f1f71a16439484"), looks := true }, kinds := [], alts := [], laidByText := true, laidKinds := [.data, .data, .data, .data, .data], laidTests := true, laidLooks := .later }
def IdentReadsCardSaid : Prop := Claim7.holds Tryz.pinned (.plain (OpenSpec.ofChange identReadsSpec)) identReadsCard

/-- THE TIED CARD OF 'apiarylaw5.IdentTexts'. -/
def identTextsCard : Claim7 := { stood := { row := identTextsRow, standIns := [], harness := (true, "b4911bfd3b89720cd1857ceb4170a5f179590c5d56b9056768f1f71a16439484"), looks := true }, kinds := [], alts := [], laidByText := true, laidKinds := [.data, .data, .data, .sentinel, .sentinel, .data, .data], laidTests := true, laidLooks := .later }
def IdentTextsCardSaid : Prop := Claim7.holds Tryz.pinned (.plain (OpenSpec.ofChange identTextsSpec)) identTextsCard

/-- THE SECOND FORM's CARD OF 'apiarylaw5.IdentSizes'. -/
def identSizesUptoCard : Claim7 := { stood := { row := identSizesUptoRow, standIns := [], harness := (true, "b4911bfd3b89720cd1857ceb4170a5f179590c5d56b9056768f1f71a16439484"), looks := true }, kinds := [], alts := [], laidByText := true, laidKinds := [.data, .data, .data, .data, .data], laidTests := true, laidLooks := .later }
def IdentSizesUptoCardSaid : Prop := Claim7.holds Tryz.pinned (.plain (OpenSpec.upto identSizesSpec)) identSizesUptoCard

/-- THE SECOND FORM's CARD OF 'apiarylaw5.IdentOne'. -/
def identOneUptoCard : Claim7 := { stood := { row := identOneUptoRow, standIns := [], harness := (true, "b4911bfd3b89720cd1857ceb4170a5f179590c5d56b9056768f1f71a16439484"), looks := true }, kinds := [], alts := [], laidByText := true, laidKinds := [.data, .data, .data, .data, .data], laidTests := true, laidLooks := .later }
def IdentOneUptoCardSaid : Prop := Claim7.holds Tryz.pinned (.plain (OpenSpec.upto identOneSpec)) identOneUptoCard

/-- THE SECOND FORM's CARD OF 'apiarylaw5.IdentBelow'. -/
def identBelowUptoCard : Claim7 := { stood := { row := identBelowUptoRow, standIns := [], harness := (true, "b4911bfd3b89720cd1857ceb4170a5f179590c5d56b9056768f1f71a16439484"), looks := true }, kinds := [], alts := [], laidByText := true, laidKinds := [.data, .data, .data, .data, .data], laidTests := true, laidLooks := .later }
def IdentBelowUptoCardSaid : Prop := Claim7.holds Tryz.pinned (.plain (OpenSpec.upto identBelowSpec)) identBelowUptoCard

/-- THE SECOND FORM's CARD OF 'apiarylaw5.IdentWords'. -/
def identWordsUptoCard : Claim7 := { stood := { row := identWordsUptoRow, standIns := [], harness := (true, "b4911bfd3b89720cd1857ceb4170a5f179590c5d56b9056768f1f71a16439484"), looks := true }, kinds := [], alts := [], laidByText := true, laidKinds := [.data, .data, .data, .data, .data], laidTests := true, laidLooks := .later }
def IdentWordsUptoCardSaid : Prop := Claim7.holds Tryz.pinned (.plain (OpenSpec.upto identWordsSpec)) identWordsUptoCard

/-- THE SECOND FORM's CARD OF 'apiarylaw5.IdentReads'. -/
def identReadsUptoCard : Claim7 := { stood := { row := identReadsUptoRow, standIns := [], harness := (true, "b4911bfd3b89720cd1857ceb4170a5f179590c5d56b9056768f1f71a16439484"), looks := true }, kinds := [], alts := [], laidByText := true, laidKinds := [.data, .data, .data, .data, .data], laidTests := true, laidLooks := .later }
def IdentReadsUptoCardSaid : Prop := Claim7.holds Tryz.pinned (.plain (OpenSpec.upto identReadsSpec)) identReadsUptoCard

/-- THE SECOND FORM's CARD OF 'apiarylaw5.IdentTexts'. -/
def identTextsUptoCard : Claim7 := { stood := { row := identTextsUptoRow, standIns := [], harness := (true, "b4911bfd3b89720cd1857ceb4170a5f179590c5d56b9056768f1f71a16439484"), looks := true }, kinds := [], alts := [], laidByText := true, laidKinds := [.data, .data, .data, .sentinel, .sentinel, .data, .data], laidTests := true, laidLooks := .later }
def IdentTextsUptoCardSaid : Prop := Claim7.holds Tryz.pinned (.plain (OpenSpec.upto identTextsSpec)) identTextsUptoCard
end Rows
end Go.Proofs.YtlipbdiijjfheaaGreatDoor
