/-
  DERIVED. GIVEN WITH THE SEED: THE CARDS: each row of YteipijgkiobmaaaDoorRows.lean that lists a variable, with what it lists TIED to the program's text (the seventh form; the later family's looks); each row that meets fmt, with fmt's text TOLD by the authors' own Lean function (tested against real Go, not proved from fmt's source: count such statements apart). THE CARD IS WHAT COUNTS. Prove the row's statement (the work); the ties are given (YteipijgkiobmaaaDoorTie.lean); close each card by the builder's one call (the guide's Derived/Test/ToyasCard.lean, 'card_holds'). Laid BY PROGRAM, IN A SANDBOX (cutbox-door.mjs). By AI agents, Wed Nov 11 2026. No macro, syntax, notation, axiom, sorry.
-/
import Derived.Test.YteipijgkiobmaaaDoorRows
import GoSem.ClaimSeven
namespace Go.Proofs.YteipijgkiobmaaaDoor
namespace Rows

/-- THE TIED CARD OF 'apiarylaw6.NearEdge'. -/
def nearEdgeCard : Claim7 := { stood := { row := nearEdgeRow, standIns := [], harness := (true, "103827abdb5a31dfb74d67e94f4460580496163c0564db38dbf32e23e5878907"), looks := false }, kinds := [], alts := [], laidByText := true, laidKinds := [.data, .data], laidTests := true, laidLooks := .later }
def NearEdgeCardSaid : Prop := Claim7.holds Tryd.pinned (.plain (OpenSpec.ofChange nearEdgeSpec)) nearEdgeCard

/-- THE SECOND FORM's CARD OF 'apiarylaw6.NearEdge'. -/
def nearEdgeUptoCard : Claim7 := { stood := { row := nearEdgeUptoRow, standIns := [], harness := (true, "103827abdb5a31dfb74d67e94f4460580496163c0564db38dbf32e23e5878907"), looks := false }, kinds := [], alts := [], laidByText := true, laidKinds := [.data, .data], laidTests := true, laidLooks := .later }
def NearEdgeUptoCardSaid : Prop := Claim7.holds Tryd.pinned (.plain (OpenSpec.upto nearEdgeSpec)) nearEdgeUptoCard
end Rows
end Go.Proofs.YteipijgkiobmaaaDoor
