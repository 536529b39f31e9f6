/-
  NARROWER THAN 'FOR EVERY INPUT', by the rows' own cells (each row's printed sentence says how): CoverParts: laid · CoverBounds: laid.
  DERIVED. THE GIVEN ROWS OF THIS SEAT. 2 by the template 'for every input the law returns true; each argument reads behind the call as it read before'; 0 by the template 'total and deterministic' (their statements: YtdklpgphmoaniabGreatDoorTotals.lean).
  GIVEN WITH THE SEED: the statements are not yours to turn. If you find one false, say at which input.
  Laid BY PROGRAM, IN A SANDBOX (cutbox-rows.mjs): the forced cells as the released guide's own fill.sh prints them over the translation 7f8384cfb9d07bb7… (all of the seat's roots in one cut). By AI agents, Wed Nov 11 2026. No macro, syntax, notation, axiom, sorry.
-/
import Derived.Test.YtdklpgphmoaniabGreatDoorChecked
import GoSem.Claim
import GoSem.ClaimJoined
import GoSem.ClaimMapViews
import Derived.JoinedTies
import Derived.KernelRfl
namespace Go.Proofs.YtdklpgphmoaniabGreatDoor
/- THE CELL 'sum', in the pinned program and in every row, IS THE sha256 OF THE DUMP (.gsa) THAT YtdklpgphmoaniabGreatDoorProg.lean LOADS. Nothing in Lean hashes anything: it is a label: what it is worth is what the hold of that sum in a sandbox is worth. -/
noncomputable def Tryz.pinned : Pinned := { name := "ytdklpgphmoaniabgreatdoor", sum := "7f8384cfb9d07bb78b897c1f9a41e1d13f81e971d85ce0246ef865a30f56d064", checked := Tryz.checked }
namespace Rows
def none {H : Type} : Left H := { results := [], args := [] }

/- WHAT THE LISTED PACKAGE-LEVEL VARIABLES READ AS WHEN THE CALL BEGINS. Each datum BY PROGRAM (the guide's laid-datum.mjs) off the statement by which the dump's own 'gosem.cut.vars' lays the variable. In a bare row this is a premise. The card (YtdklpgphmoaniabGreatDoorCards.lean) ties it to the program's text. -/
def laid_apiary_eisen_units {H : Type} : DataW H := .agg [.agg [.lit (.int .i64 1), .lit (.int .i64 0)], .agg [.lit (.int .i64 0), .lit (.int .i64 1)], .agg [.lit (.int .i64 (-1)), .lit (.int .i64 1)], .agg [.lit (.int .i64 (-1)), .lit (.int .i64 0)], .agg [.lit (.int .i64 0), .lit (.int .i64 (-1))], .agg [.lit (.int .i64 1), .lit (.int .i64 (-1))]]
def laid_apiary_plane_ways {H : Type} : DataW H := .agg [.agg [.lit (.int .i64 1), .lit (.int .i64 1)], .agg [.lit (.int .i64 (-1)), .lit (.int .i64 2)], .agg [.lit (.int .i64 (-2)), .lit (.int .i64 1)], .agg [.lit (.int .i64 (-1)), .lit (.int .i64 (-1))], .agg [.lit (.int .i64 1), .lit (.int .i64 (-2))], .agg [.lit (.int .i64 2), .lit (.int .i64 (-1))]]
def laid_apiary_cell_digits {H : Type} : DataW H := .agg [.lit (.int .i64 0), .lit (.int .i64 1), .lit (.int .i64 5), .lit (.int .i64 6), .lit (.int .i64 3), .lit (.int .i64 2), .lit (.int .i64 4)]

/-- 'apiarylaw10.CoverParts': WHATEVER THE INPUT: true; the input reads as it did. -/
def coverPartsSpec : ChangeSpec := { name := "coverParts", fn := fun _ => fun
  | [d1, d2, d3, d4, d5, d6] => { results := [.lit (.bool true)], args := [d1, d2, d3, d4, d5, d6] }
  | _ => none }
def coverPartsRow : OpenClaim := { program := "ytdklpgphmoaniabgreatdoor", sum := "7f8384cfb9d07bb78b897c1f9a41e1d13f81e971d85ce0246ef865a30f56d064", func := "apiary/apiarylaw10.CoverParts", spec := "coverParts", inPlace := ["math/bits.Sub64", "math/bits.Add64"], unfollowed := true, recurses := true, named := ["apiary/eisen.units", "apiary/cell.digits", "apiary/plane.ways"], apart := false, laid := [("apiary/eisen.units", laid_apiary_eisen_units), ("apiary/plane.ways", laid_apiary_plane_ways), ("apiary/cell.digits", laid_apiary_cell_digits)] }
def CoverPartsSaid : Prop := coverPartsRow.holds Tryz.pinned (OpenSpec.ofChange coverPartsSpec)

/-- ITS FALSE NEIGHBOUR: 'it returns false'. Refute it at one input. -/
def coverPartsWrong : ChangeSpec := { name := "coverParts", fn := fun _ => fun
  | [d1, d2, d3, d4, d5, d6] => { results := [.lit (.bool false)], args := [d1, d2, d3, d4, d5, d6] }
  | _ => none }
def CoverPartsWrongFalsely : Prop := coverPartsRow.holds Tryz.pinned (OpenSpec.ofChange coverPartsWrong)

/-- 'apiarylaw10.CoverBounds': WHATEVER THE INPUT: true; the input reads as it did. -/
def coverBoundsSpec : ChangeSpec := { name := "coverBounds", fn := fun _ => fun
  | [d1, d2, d3] => { results := [.lit (.bool true)], args := [d1, d2, d3] }
  | _ => none }
def coverBoundsRow : OpenClaim := { program := "ytdklpgphmoaniabgreatdoor", sum := "7f8384cfb9d07bb78b897c1f9a41e1d13f81e971d85ce0246ef865a30f56d064", func := "apiary/apiarylaw10.CoverBounds", spec := "coverBounds", inPlace := ["math/bits.Sub64", "math/bits.Add64"], unfollowed := true, recurses := true, named := ["apiary/eisen.units", "apiary/cell.digits", "apiary/plane.ways"], apart := false, laid := [("apiary/eisen.units", laid_apiary_eisen_units), ("apiary/plane.ways", laid_apiary_plane_ways), ("apiary/cell.digits", laid_apiary_cell_digits)] }
def CoverBoundsSaid : Prop := coverBoundsRow.holds Tryz.pinned (OpenSpec.ofChange coverBoundsSpec)

/-- ITS FALSE NEIGHBOUR: 'it returns false'. Refute it at one input. -/
def coverBoundsWrong : ChangeSpec := { name := "coverBounds", fn := fun _ => fun
  | [d1, d2, d3] => { results := [.lit (.bool false)], args := [d1, d2, d3] }
  | _ => none }
def CoverBoundsWrongFalsely : Prop := coverBoundsRow.holds Tryz.pinned (OpenSpec.ofChange coverBoundsWrong)

/- THE SECOND FORM. 'bulk': how many values and letters a reading holds, each counted each time it is reached (what is shared counts as often as it is met; a slice's spare places count too). A statement '..UptoSaid' is the law's where the arguments, and the package variables that the reading takes, are together of bulk at most 1048576: NARROWER than '..Said'. Prove '..Said' where nothing that the law and all that it calls make is longer than what came in: it says more and counts as full. Else prove '..UptoSaid'. A law counts once. -/
mutual
def uptoBulk {H : Type} : DataW H → Nat
  | .lit (.string bytes) => bytes.length + 1
  | .lit _ => 1
  | .nil => 1
  | .ptr d => uptoBulk d + 1
  | .slice elems spare => uptoBulkAll elems + uptoBulkAll spare + 1
  | .agg parts => uptoBulkAll parts + 1
  | .iface _ d => uptoBulk d + 1
  | .map entries => uptoBulkEntries entries + 1
  | .held _ => 1
def uptoBulkAll {H : Type} : List (DataW H) → Nat
  | [] => 0
  | d :: r => uptoBulk d + uptoBulkAll r
def uptoBulkEntries {H : Type} : List (Lit × DataW H) → Nat
  | [] => 0
  | x :: r => uptoBulkEntry x + uptoBulkEntries r
def uptoBulkEntry {H : Type} : Lit × DataW H → Nat
  | (.string bytes, d) => bytes.length + uptoBulk d + 1
  | (_, d) => uptoBulk d + 1
 end
def uptoSmall : (H : Type) → List (DataW H) → Bool := fun _ ds => decide (uptoBulkAll ds ≤ 1048576)
def OpenSpec.upto (s : _root_.Go.ChangeSpec) : _root_.Go.OpenSpec := { _root_.Go.OpenSpec.ofChange s with cond := some uptoSmall }

/-- 'apiarylaw10.CoverParts', WHERE WHAT IT READS IS OF BULK AT MOST 1048576: true; the input reads as it did. -/
def coverPartsUptoRow : OpenClaim := { program := "ytdklpgphmoaniabgreatdoor", sum := "7f8384cfb9d07bb78b897c1f9a41e1d13f81e971d85ce0246ef865a30f56d064", func := "apiary/apiarylaw10.CoverParts", spec := "coverParts", inPlace := ["math/bits.Sub64", "math/bits.Add64"], unfollowed := true, recurses := true, named := ["apiary/eisen.units", "apiary/cell.digits", "apiary/plane.ways"], apart := false, laid := [("apiary/eisen.units", laid_apiary_eisen_units), ("apiary/plane.ways", laid_apiary_plane_ways), ("apiary/cell.digits", laid_apiary_cell_digits)], narrowed := true }
def CoverPartsUptoSaid : Prop := coverPartsUptoRow.holds Tryz.pinned (OpenSpec.upto coverPartsSpec)

/-- 'apiarylaw10.CoverBounds', WHERE WHAT IT READS IS OF BULK AT MOST 1048576: true; the input reads as it did. -/
def coverBoundsUptoRow : OpenClaim := { program := "ytdklpgphmoaniabgreatdoor", sum := "7f8384cfb9d07bb78b897c1f9a41e1d13f81e971d85ce0246ef865a30f56d064", func := "apiary/apiarylaw10.CoverBounds", spec := "coverBounds", inPlace := ["math/bits.Sub64", "math/bits.Add64"], unfollowed := true, recurses := true, named := ["apiary/eisen.units", "apiary/cell.digits", "apiary/plane.ways"], apart := false, laid := [("apiary/eisen.units", laid_apiary_eisen_units), ("apiary/plane.ways", laid_apiary_plane_ways), ("apiary/cell.digits", laid_apiary_cell_digits)], narrowed := true }
def CoverBoundsUptoSaid : Prop := coverBoundsUptoRow.holds Tryz.pinned (OpenSpec.upto coverBoundsSpec)

end Rows
end Go.Proofs.YtdklpgphmoaniabGreatDoor
