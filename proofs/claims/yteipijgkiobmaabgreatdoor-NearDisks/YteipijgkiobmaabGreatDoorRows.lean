/-
  NARROWER THAN 'FOR EVERY INPUT', by the rows' own cells (each row's printed sentence says how): NearMetric: laid · NearDisks: laid · NearBounds: laid.
  DERIVED. THE GIVEN ROWS OF THIS SEAT. 3 by the template 'for every input the law returns true; each argument reads behind the call as it read before'; 0 by the template 'total and deterministic' (their statements: YteipijgkiobmaabGreatDoorTotals.lean).
  GIVEN WITH THE SEED: the statements are not yours to turn. If you find one false, say at which input.
  Laid BY PROGRAM, IN A SANDBOX (cutbox-rows.mjs): the forced cells as the released guide's own fill.sh prints them over the translation 6f64a459fb6c5c02… (all of the seat's roots in one cut). By AI agents, Wed Nov 11 2026. No macro, syntax, notation, axiom, sorry.
-/
import Derived.Test.YteipijgkiobmaabGreatDoorChecked
import GoSem.Claim
import GoSem.ClaimJoined
import GoSem.ClaimMapViews
import Derived.JoinedTies
import Derived.KernelRfl
namespace Go.Proofs.YteipijgkiobmaabGreatDoor
/- THE CELL 'sum', in the pinned program and in every row, IS THE sha256 OF THE DUMP (.gsa) THAT YteipijgkiobmaabGreatDoorProg.lean LOADS. Nothing in Lean hashes anything: it is a label: what it is worth is what the hold of that sum in a sandbox is worth. -/
noncomputable def Tryz.pinned : Pinned := { name := "yteipijgkiobmaabgreatdoor", sum := "6f64a459fb6c5c02c933749a0bd19fb45512b2a91b004f9b0cb3ed3a05951e69", checked := Tryz.checked }
namespace Rows
def none {H : Type} : Left H := { results := [], args := [] }

/- WHAT THE LISTED PACKAGE-LEVEL VARIABLES READ AS WHEN THE CALL BEGINS. Each datum BY PROGRAM (the guide's laid-datum.mjs) off the statement by which the dump's own 'gosem.cut.vars' lays the variable. In a bare row this is a premise. The card (YteipijgkiobmaabGreatDoorCards.lean) ties it to the program's text. -/
def laid_apiary_eisen_units {H : Type} : DataW H := .agg [.agg [.lit (.int .i64 1), .lit (.int .i64 0)], .agg [.lit (.int .i64 0), .lit (.int .i64 1)], .agg [.lit (.int .i64 (-1)), .lit (.int .i64 1)], .agg [.lit (.int .i64 (-1)), .lit (.int .i64 0)], .agg [.lit (.int .i64 0), .lit (.int .i64 (-1))], .agg [.lit (.int .i64 1), .lit (.int .i64 (-1))]]
def laid_apiary_cell_digits {H : Type} : DataW H := .agg [.lit (.int .i64 0), .lit (.int .i64 1), .lit (.int .i64 5), .lit (.int .i64 6), .lit (.int .i64 3), .lit (.int .i64 2), .lit (.int .i64 4)]

/-- 'apiarylaw6.NearMetric': WHATEVER THE INPUT: true; the input reads as it did. -/
def nearMetricSpec : ChangeSpec := { name := "nearMetric", fn := fun _ => fun
  | [d1, d2, d3, d4, d5, d6, d7] => { results := [.lit (.bool true)], args := [d1, d2, d3, d4, d5, d6, d7] }
  | _ => none }
def nearMetricRow : OpenClaim := { program := "yteipijgkiobmaabgreatdoor", sum := "6f64a459fb6c5c02c933749a0bd19fb45512b2a91b004f9b0cb3ed3a05951e69", func := "apiary/apiarylaw6.NearMetric", spec := "nearMetric", inPlace := ["math/bits.Add64", "math/bits.Sub64"], unfollowed := true, recurses := true, named := ["apiary/cell.digits", "apiary/eisen.units"], apart := false, laid := [("apiary/eisen.units", laid_apiary_eisen_units), ("apiary/cell.digits", laid_apiary_cell_digits)] }
def NearMetricSaid : Prop := nearMetricRow.holds Tryz.pinned (OpenSpec.ofChange nearMetricSpec)

/-- ITS FALSE NEIGHBOUR: 'it returns false'. Refute it at one input. -/
def nearMetricWrong : ChangeSpec := { name := "nearMetric", fn := fun _ => fun
  | [d1, d2, d3, d4, d5, d6, d7] => { results := [.lit (.bool false)], args := [d1, d2, d3, d4, d5, d6, d7] }
  | _ => none }
def NearMetricWrongFalsely : Prop := nearMetricRow.holds Tryz.pinned (OpenSpec.ofChange nearMetricWrong)

/-- 'apiarylaw6.NearDisks': WHATEVER THE INPUT: true; the input reads as it did. -/
def nearDisksSpec : ChangeSpec := { name := "nearDisks", fn := fun _ => fun
  | [d1, d2, d3, d4] => { results := [.lit (.bool true)], args := [d1, d2, d3, d4] }
  | _ => none }
def nearDisksRow : OpenClaim := { program := "yteipijgkiobmaabgreatdoor", sum := "6f64a459fb6c5c02c933749a0bd19fb45512b2a91b004f9b0cb3ed3a05951e69", func := "apiary/apiarylaw6.NearDisks", spec := "nearDisks", inPlace := ["math/bits.Add64", "math/bits.Sub64"], unfollowed := true, recurses := true, named := ["apiary/cell.digits", "apiary/eisen.units"], apart := false, laid := [("apiary/eisen.units", laid_apiary_eisen_units), ("apiary/cell.digits", laid_apiary_cell_digits)] }
def NearDisksSaid : Prop := nearDisksRow.holds Tryz.pinned (OpenSpec.ofChange nearDisksSpec)

/-- ITS FALSE NEIGHBOUR: 'it returns false'. Refute it at one input. -/
def nearDisksWrong : ChangeSpec := { name := "nearDisks", fn := fun _ => fun
  | [d1, d2, d3, d4] => { results := [.lit (.bool false)], args := [d1, d2, d3, d4] }
  | _ => none }
def NearDisksWrongFalsely : Prop := nearDisksRow.holds Tryz.pinned (OpenSpec.ofChange nearDisksWrong)

/-- 'apiarylaw6.NearBounds': WHATEVER THE INPUT: true; the input reads as it did. -/
def nearBoundsSpec : ChangeSpec := { name := "nearBounds", fn := fun _ => fun
  | [d1, d2, d3, d4] => { results := [.lit (.bool true)], args := [d1, d2, d3, d4] }
  | _ => none }
def nearBoundsRow : OpenClaim := { program := "yteipijgkiobmaabgreatdoor", sum := "6f64a459fb6c5c02c933749a0bd19fb45512b2a91b004f9b0cb3ed3a05951e69", func := "apiary/apiarylaw6.NearBounds", spec := "nearBounds", inPlace := ["math/bits.Add64", "math/bits.Sub64"], unfollowed := true, recurses := true, named := ["apiary/cell.digits", "apiary/eisen.units"], apart := false, laid := [("apiary/eisen.units", laid_apiary_eisen_units), ("apiary/cell.digits", laid_apiary_cell_digits)] }
def NearBoundsSaid : Prop := nearBoundsRow.holds Tryz.pinned (OpenSpec.ofChange nearBoundsSpec)

/-- ITS FALSE NEIGHBOUR: 'it returns false'. Refute it at one input. -/
def nearBoundsWrong : ChangeSpec := { name := "nearBounds", fn := fun _ => fun
  | [d1, d2, d3, d4] => { results := [.lit (.bool false)], args := [d1, d2, d3, d4] }
  | _ => none }
def NearBoundsWrongFalsely : Prop := nearBoundsRow.holds Tryz.pinned (OpenSpec.ofChange nearBoundsWrong)

/- THE SECOND FORM. 'bulk': how many values and letters a reading holds, each counted each time it is reached (what is shared counts as often as it is met; a slice's spare places count too). A statement '..UptoSaid' is the law's where the arguments, and the package variables that the reading takes, are together of bulk at most 1048576: NARROWER than '..Said'. Prove '..Said' where nothing that the law and all that it calls make is longer than what came in: it says more and counts as full. Else prove '..UptoSaid'. A law counts once. -/
mutual
def uptoBulk {H : Type} : DataW H → Nat
  | .lit (.string bytes) => bytes.length + 1
  | .lit _ => 1
  | .nil => 1
  | .ptr d => uptoBulk d + 1
  | .slice elems spare => uptoBulkAll elems + uptoBulkAll spare + 1
  | .agg parts => uptoBulkAll parts + 1
  | .iface _ d => uptoBulk d + 1
  | .map entries => uptoBulkEntries entries + 1
  | .held _ => 1
def uptoBulkAll {H : Type} : List (DataW H) → Nat
  | [] => 0
  | d :: r => uptoBulk d + uptoBulkAll r
def uptoBulkEntries {H : Type} : List (Lit × DataW H) → Nat
  | [] => 0
  | x :: r => uptoBulkEntry x + uptoBulkEntries r
def uptoBulkEntry {H : Type} : Lit × DataW H → Nat
  | (.string bytes, d) => bytes.length + uptoBulk d + 1
  | (_, d) => uptoBulk d + 1
 end
def uptoSmall : (H : Type) → List (DataW H) → Bool := fun _ ds => decide (uptoBulkAll ds ≤ 1048576)
def OpenSpec.upto (s : _root_.Go.ChangeSpec) : _root_.Go.OpenSpec := { _root_.Go.OpenSpec.ofChange s with cond := some uptoSmall }

/-- 'apiarylaw6.NearMetric', WHERE WHAT IT READS IS OF BULK AT MOST 1048576: true; the input reads as it did. -/
def nearMetricUptoRow : OpenClaim := { program := "yteipijgkiobmaabgreatdoor", sum := "6f64a459fb6c5c02c933749a0bd19fb45512b2a91b004f9b0cb3ed3a05951e69", func := "apiary/apiarylaw6.NearMetric", spec := "nearMetric", inPlace := ["math/bits.Add64", "math/bits.Sub64"], unfollowed := true, recurses := true, named := ["apiary/cell.digits", "apiary/eisen.units"], apart := false, laid := [("apiary/eisen.units", laid_apiary_eisen_units), ("apiary/cell.digits", laid_apiary_cell_digits)], narrowed := true }
def NearMetricUptoSaid : Prop := nearMetricUptoRow.holds Tryz.pinned (OpenSpec.upto nearMetricSpec)

/-- 'apiarylaw6.NearDisks', WHERE WHAT IT READS IS OF BULK AT MOST 1048576: true; the input reads as it did. -/
def nearDisksUptoRow : OpenClaim := { program := "yteipijgkiobmaabgreatdoor", sum := "6f64a459fb6c5c02c933749a0bd19fb45512b2a91b004f9b0cb3ed3a05951e69", func := "apiary/apiarylaw6.NearDisks", spec := "nearDisks", inPlace := ["math/bits.Add64", "math/bits.Sub64"], unfollowed := true, recurses := true, named := ["apiary/cell.digits", "apiary/eisen.units"], apart := false, laid := [("apiary/eisen.units", laid_apiary_eisen_units), ("apiary/cell.digits", laid_apiary_cell_digits)], narrowed := true }
def NearDisksUptoSaid : Prop := nearDisksUptoRow.holds Tryz.pinned (OpenSpec.upto nearDisksSpec)

/-- 'apiarylaw6.NearBounds', WHERE WHAT IT READS IS OF BULK AT MOST 1048576: true; the input reads as it did. -/
def nearBoundsUptoRow : OpenClaim := { program := "yteipijgkiobmaabgreatdoor", sum := "6f64a459fb6c5c02c933749a0bd19fb45512b2a91b004f9b0cb3ed3a05951e69", func := "apiary/apiarylaw6.NearBounds", spec := "nearBounds", inPlace := ["math/bits.Add64", "math/bits.Sub64"], unfollowed := true, recurses := true, named := ["apiary/cell.digits", "apiary/eisen.units"], apart := false, laid := [("apiary/eisen.units", laid_apiary_eisen_units), ("apiary/cell.digits", laid_apiary_cell_digits)], narrowed := true }
def NearBoundsUptoSaid : Prop := nearBoundsUptoRow.holds Tryz.pinned (OpenSpec.upto nearBoundsSpec)

end Rows
end Go.Proofs.YteipijgkiobmaabGreatDoor
