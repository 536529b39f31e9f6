/-
  NARROWER THAN 'FOR EVERY INPUT', by the rows' own cells (each row's printed sentence says how): CellWithin: laid · CellCentres: laid · CellSteps: laid.
  DERIVED. THE GIVEN ROWS OF THIS SEAT. 3 by the template 'for every input the law returns true; each argument reads behind the call as it read before'; 0 by the template 'total and deterministic' (their statements: YtnnbdlnginkldabDoorTotals.lean).
  GIVEN WITH THE SEED: the statements are not yours to turn. If you find one false, say at which input.
  Laid BY PROGRAM, IN A SANDBOX (cutbox-rows.mjs): the forced cells as the released guide's own fill.sh prints them over the translation cd409bccc51af743… (all of the seat's roots in one cut). By AI agents, Wed Nov 11 2026. No macro, syntax, notation, axiom, sorry.
-/
import Derived.Test.YtnnbdlnginkldabDoorChecked
import GoSem.Claim
import GoSem.ClaimJoined
import GoSem.ClaimMapViews
import Derived.JoinedTies
import Derived.KernelRfl
namespace Go.Proofs.YtnnbdlnginkldabDoor
/- THE CELL 'sum', in the pinned program and in every row, IS THE sha256 OF THE DUMP (.gsa) THAT YtnnbdlnginkldabDoorProg.lean LOADS. Nothing in Lean hashes anything: it is a label: what it is worth is what the hold of that sum in a sandbox is worth. -/
noncomputable def Tryd.pinned : Pinned := { name := "ytnnbdlnginkldabdoor", sum := "cd409bccc51af743a91b84eab8e193419f59b3500ace6031beb64d385c44ffb6", checked := Tryd.checked }
namespace Rows
def none {H : Type} : Left H := { results := [], args := [] }

/- WHAT THE LISTED PACKAGE-LEVEL VARIABLES READ AS WHEN THE CALL BEGINS. Each datum BY PROGRAM (the guide's laid-datum.mjs) off the statement by which the dump's own 'gosem.cut.vars' lays the variable. In a bare row this is a premise. The card (YtnnbdlnginkldabDoorCards.lean) ties it to the program's text. -/
def laid_apiary_eisen_units {H : Type} : DataW H := .agg [.agg [.lit (.int .i64 1), .lit (.int .i64 0)], .agg [.lit (.int .i64 0), .lit (.int .i64 1)], .agg [.lit (.int .i64 (-1)), .lit (.int .i64 1)], .agg [.lit (.int .i64 (-1)), .lit (.int .i64 0)], .agg [.lit (.int .i64 0), .lit (.int .i64 (-1))], .agg [.lit (.int .i64 1), .lit (.int .i64 (-1))]]
def laid_apiary_cell_digits {H : Type} : DataW H := .agg [.lit (.int .i64 0), .lit (.int .i64 1), .lit (.int .i64 5), .lit (.int .i64 6), .lit (.int .i64 3), .lit (.int .i64 2), .lit (.int .i64 4)]

/-- 'apiarylaw4.CellWithin': WHATEVER THE INPUT: true; the input reads as it did. -/
def cellWithinSpec : ChangeSpec := { name := "cellWithin", fn := fun _ => fun
  | [d1, d2, d3, d4, d5] => { results := [.lit (.bool true)], args := [d1, d2, d3, d4, d5] }
  | _ => none }
def cellWithinRow : OpenClaim := { program := "ytnnbdlnginkldabdoor", sum := "cd409bccc51af743a91b84eab8e193419f59b3500ace6031beb64d385c44ffb6", func := "apiary/apiarylaw4.CellWithin", spec := "cellWithin", inPlace := ["math/bits.Add64", "math/bits.Sub64"], unfollowed := true, recurses := true, named := ["apiary/cell.digits", "apiary/eisen.units"], apart := false, laid := [("apiary/eisen.units", laid_apiary_eisen_units), ("apiary/cell.digits", laid_apiary_cell_digits)] }
def CellWithinSaid : Prop := cellWithinRow.holds Tryd.pinned (OpenSpec.ofChange cellWithinSpec)

/-- ITS FALSE NEIGHBOUR: 'it returns false'. Refute it at one input. -/
def cellWithinWrong : ChangeSpec := { name := "cellWithin", fn := fun _ => fun
  | [d1, d2, d3, d4, d5] => { results := [.lit (.bool false)], args := [d1, d2, d3, d4, d5] }
  | _ => none }
def CellWithinWrongFalsely : Prop := cellWithinRow.holds Tryd.pinned (OpenSpec.ofChange cellWithinWrong)

/-- 'apiarylaw4.CellCentres': WHATEVER THE INPUT: true; the input reads as it did. -/
def cellCentresSpec : ChangeSpec := { name := "cellCentres", fn := fun _ => fun
  | [d1, d2, d3] => { results := [.lit (.bool true)], args := [d1, d2, d3] }
  | _ => none }
def cellCentresRow : OpenClaim := { program := "ytnnbdlnginkldabdoor", sum := "cd409bccc51af743a91b84eab8e193419f59b3500ace6031beb64d385c44ffb6", func := "apiary/apiarylaw4.CellCentres", spec := "cellCentres", inPlace := ["math/bits.Add64", "math/bits.Sub64"], unfollowed := true, recurses := true, named := ["apiary/cell.digits", "apiary/eisen.units"], apart := false, laid := [("apiary/eisen.units", laid_apiary_eisen_units), ("apiary/cell.digits", laid_apiary_cell_digits)] }
def CellCentresSaid : Prop := cellCentresRow.holds Tryd.pinned (OpenSpec.ofChange cellCentresSpec)

/-- ITS FALSE NEIGHBOUR: 'it returns false'. Refute it at one input. -/
def cellCentresWrong : ChangeSpec := { name := "cellCentres", fn := fun _ => fun
  | [d1, d2, d3] => { results := [.lit (.bool false)], args := [d1, d2, d3] }
  | _ => none }
def CellCentresWrongFalsely : Prop := cellCentresRow.holds Tryd.pinned (OpenSpec.ofChange cellCentresWrong)

/-- 'apiarylaw4.CellSteps': WHATEVER THE INPUT: true; the input reads as it did. -/
def cellStepsSpec : ChangeSpec := { name := "cellSteps", fn := fun _ => fun
  | [d1, d2, d3] => { results := [.lit (.bool true)], args := [d1, d2, d3] }
  | _ => none }
def cellStepsRow : OpenClaim := { program := "ytnnbdlnginkldabdoor", sum := "cd409bccc51af743a91b84eab8e193419f59b3500ace6031beb64d385c44ffb6", func := "apiary/apiarylaw4.CellSteps", spec := "cellSteps", inPlace := ["math/bits.Sub64", "math/bits.Add64"], unfollowed := true, recurses := true, named := ["apiary/cell.digits", "apiary/eisen.units"], apart := false, laid := [("apiary/eisen.units", laid_apiary_eisen_units), ("apiary/cell.digits", laid_apiary_cell_digits)] }
def CellStepsSaid : Prop := cellStepsRow.holds Tryd.pinned (OpenSpec.ofChange cellStepsSpec)

/-- ITS FALSE NEIGHBOUR: 'it returns false'. Refute it at one input. -/
def cellStepsWrong : ChangeSpec := { name := "cellSteps", fn := fun _ => fun
  | [d1, d2, d3] => { results := [.lit (.bool false)], args := [d1, d2, d3] }
  | _ => none }
def CellStepsWrongFalsely : Prop := cellStepsRow.holds Tryd.pinned (OpenSpec.ofChange cellStepsWrong)

/- THE SECOND FORM. 'bulk': how many values and letters a reading holds, each counted each time it is reached (what is shared counts as often as it is met; a slice's spare places count too). A statement '..UptoSaid' is the law's where the arguments, and the package variables that the reading takes, are together of bulk at most 1048576: NARROWER than '..Said'. Prove '..Said' where nothing that the law and all that it calls make is longer than what came in: it says more and counts as full. Else prove '..UptoSaid'. A law counts once. -/
mutual
def uptoBulk {H : Type} : DataW H → Nat
  | .lit (.string bytes) => bytes.length + 1
  | .lit _ => 1
  | .nil => 1
  | .ptr d => uptoBulk d + 1
  | .slice elems spare => uptoBulkAll elems + uptoBulkAll spare + 1
  | .agg parts => uptoBulkAll parts + 1
  | .iface _ d => uptoBulk d + 1
  | .map entries => uptoBulkEntries entries + 1
  | .held _ => 1
def uptoBulkAll {H : Type} : List (DataW H) → Nat
  | [] => 0
  | d :: r => uptoBulk d + uptoBulkAll r
def uptoBulkEntries {H : Type} : List (Lit × DataW H) → Nat
  | [] => 0
  | x :: r => uptoBulkEntry x + uptoBulkEntries r
def uptoBulkEntry {H : Type} : Lit × DataW H → Nat
  | (.string bytes, d) => bytes.length + uptoBulk d + 1
  | (_, d) => uptoBulk d + 1
 end
def uptoSmall : (H : Type) → List (DataW H) → Bool := fun _ ds => decide (uptoBulkAll ds ≤ 1048576)
def OpenSpec.upto (s : _root_.Go.ChangeSpec) : _root_.Go.OpenSpec := { _root_.Go.OpenSpec.ofChange s with cond := some uptoSmall }

/-- 'apiarylaw4.CellWithin', WHERE WHAT IT READS IS OF BULK AT MOST 1048576: true; the input reads as it did. -/
def cellWithinUptoRow : OpenClaim := { program := "ytnnbdlnginkldabdoor", sum := "cd409bccc51af743a91b84eab8e193419f59b3500ace6031beb64d385c44ffb6", func := "apiary/apiarylaw4.CellWithin", spec := "cellWithin", inPlace := ["math/bits.Add64", "math/bits.Sub64"], unfollowed := true, recurses := true, named := ["apiary/cell.digits", "apiary/eisen.units"], apart := false, laid := [("apiary/eisen.units", laid_apiary_eisen_units), ("apiary/cell.digits", laid_apiary_cell_digits)], narrowed := true }
def CellWithinUptoSaid : Prop := cellWithinUptoRow.holds Tryd.pinned (OpenSpec.upto cellWithinSpec)

/-- 'apiarylaw4.CellCentres', WHERE WHAT IT READS IS OF BULK AT MOST 1048576: true; the input reads as it did. -/
def cellCentresUptoRow : OpenClaim := { program := "ytnnbdlnginkldabdoor", sum := "cd409bccc51af743a91b84eab8e193419f59b3500ace6031beb64d385c44ffb6", func := "apiary/apiarylaw4.CellCentres", spec := "cellCentres", inPlace := ["math/bits.Add64", "math/bits.Sub64"], unfollowed := true, recurses := true, named := ["apiary/cell.digits", "apiary/eisen.units"], apart := false, laid := [("apiary/eisen.units", laid_apiary_eisen_units), ("apiary/cell.digits", laid_apiary_cell_digits)], narrowed := true }
def CellCentresUptoSaid : Prop := cellCentresUptoRow.holds Tryd.pinned (OpenSpec.upto cellCentresSpec)

/-- 'apiarylaw4.CellSteps', WHERE WHAT IT READS IS OF BULK AT MOST 1048576: true; the input reads as it did. -/
def cellStepsUptoRow : OpenClaim := { program := "ytnnbdlnginkldabdoor", sum := "cd409bccc51af743a91b84eab8e193419f59b3500ace6031beb64d385c44ffb6", func := "apiary/apiarylaw4.CellSteps", spec := "cellSteps", inPlace := ["math/bits.Sub64", "math/bits.Add64"], unfollowed := true, recurses := true, named := ["apiary/cell.digits", "apiary/eisen.units"], apart := false, laid := [("apiary/eisen.units", laid_apiary_eisen_units), ("apiary/cell.digits", laid_apiary_cell_digits)], narrowed := true }
def CellStepsUptoSaid : Prop := cellStepsUptoRow.holds Tryd.pinned (OpenSpec.upto cellStepsSpec)

end Rows
end Go.Proofs.YtnnbdlnginkldabDoor
