/-
  DERIVED. GIVEN WITH THE SEED: THE CARDS: each row of YteipijgkiobmaabGreatDoorRows.lean that lists a variable, with what it lists TIED to the program's text (the seventh form; the later family's looks); each row that meets fmt, with fmt's text TOLD by the authors' own Lean function (tested against real Go, not proved from fmt's source: count such statements apart). THE CARD IS WHAT COUNTS. Prove the row's statement (the work); the ties are given (YteipijgkiobmaabGreatDoorTie.lean); close each card by the builder's one call (the guide's Derived/Test/ToyasCard.lean, 'card_holds'). Laid BY PROGRAM, IN A SANDBOX (cutbox-door.mjs). By AI agents, Wed Nov 11 2026. No macro, syntax, notation, axiom, sorry.
-/
import Derived.Test.YteipijgkiobmaabGreatDoorRows
import GoSem.ClaimSeven
namespace Go.Proofs.YteipijgkiobmaabGreatDoor
namespace Rows

/-- THE TIED CARD OF 'apiarylaw6.NearMetric'. -/
def nearMetricCard : Claim7 := { stood := { row := nearMetricRow, standIns := [], harness := (true, "d56ab91be7da7ac814cdf2fffdd317900edb40ae2eef59f3023ceaaef5003435"), looks := false }, kinds := [], alts := [], laidByText := true, laidKinds := [.data, .data], laidTests := true, laidLooks := .later }
def NearMetricCardSaid : Prop := Claim7.holds Tryz.pinned (.plain (OpenSpec.ofChange nearMetricSpec)) nearMetricCard

/-- THE TIED CARD OF 'apiarylaw6.NearDisks'. -/
def nearDisksCard : Claim7 := { stood := { row := nearDisksRow, standIns := [], harness := (true, "d56ab91be7da7ac814cdf2fffdd317900edb40ae2eef59f3023ceaaef5003435"), looks := false }, kinds := [], alts := [], laidByText := true, laidKinds := [.data, .data], laidTests := true, laidLooks := .later }
def NearDisksCardSaid : Prop := Claim7.holds Tryz.pinned (.plain (OpenSpec.ofChange nearDisksSpec)) nearDisksCard

/-- THE TIED CARD OF 'apiarylaw6.NearBounds'. -/
def nearBoundsCard : Claim7 := { stood := { row := nearBoundsRow, standIns := [], harness := (true, "d56ab91be7da7ac814cdf2fffdd317900edb40ae2eef59f3023ceaaef5003435"), looks := false }, kinds := [], alts := [], laidByText := true, laidKinds := [.data, .data], laidTests := true, laidLooks := .later }
def NearBoundsCardSaid : Prop := Claim7.holds Tryz.pinned (.plain (OpenSpec.ofChange nearBoundsSpec)) nearBoundsCard

/-- THE SECOND FORM's CARD OF 'apiarylaw6.NearMetric'. -/
def nearMetricUptoCard : Claim7 := { stood := { row := nearMetricUptoRow, standIns := [], harness := (true, "d56ab91be7da7ac814cdf2fffdd317900edb40ae2eef59f3023ceaaef5003435"), looks := false }, kinds := [], alts := [], laidByText := true, laidKinds := [.data, .data], laidTests := true, laidLooks := .later }
def NearMetricUptoCardSaid : Prop := Claim7.holds Tryz.pinned (.plain (OpenSpec.upto nearMetricSpec)) nearMetricUptoCard

/-- THE SECOND FORM's CARD OF 'apiarylaw6.NearDisks'. -/
def nearDisksUptoCard : Claim7 := { stood := { row := nearDisksUptoRow, standIns := [], harness := (true, "d56ab91be7da7ac814cdf2fffdd317900edb40ae2eef59f3023ceaaef5003435"), looks := false }, kinds := [], alts := [], laidByText := true, laidKinds := [.data, .data], laidTests := true, laidLooks := .later }
def NearDisksUptoCardSaid : Prop := Claim7.holds Tryz.pinned (.plain (OpenSpec.upto nearDisksSpec)) nearDisksUptoCard

/-- THE SECOND FORM's CARD OF 'apiarylaw6.NearBounds'. -/
def nearBoundsUptoCard : Claim7 := { stood := { row := nearBoundsUptoRow, standIns := [], harness := (true, "d56ab91be7da7ac814cdf2fffdd317900edb40ae2eef59f3023ceaaef5003435"), looks := false }, kinds := [], alts := [], laidByText := true, laidKinds := [.data, .data], laidTests := true, laidLooks := .later }
def NearBoundsUptoCardSaid : Prop := Claim7.holds Tryz.pinned (.plain (OpenSpec.upto nearBoundsSpec)) nearBoundsUptoCard
end Rows
end Go.Proofs.YteipijgkiobmaabGreatDoor
