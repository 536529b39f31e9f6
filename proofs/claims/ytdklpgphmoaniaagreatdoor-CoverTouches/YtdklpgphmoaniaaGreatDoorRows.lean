/-
  NARROWER THAN 'FOR EVERY INPUT', by the rows' own cells (each row's printed sentence says how): CoverNext: laid · CoverArgs: laid · CoverSizes: laid · CoverTouches: laid · CoverBoxes: laid · CoverPoints: laid.
  DERIVED. THE GIVEN ROWS OF THIS SEAT. 6 by the template 'for every input the law returns true; each argument reads behind the call as it read before'; 0 by the template 'total and deterministic' (their statements: YtdklpgphmoaniaaGreatDoorTotals.lean).
  GIVEN WITH THE SEED: the statements are not yours to turn. If you find one false, say at which input.
  Laid BY PROGRAM, IN A SANDBOX (cutbox-rows.mjs): the forced cells as the released guide's own fill.sh prints them over the translation 89bc1adaab97489b… (all of the seat's roots in one cut). By AI agents, Wed Nov 11 2026. No macro, syntax, notation, axiom, sorry.
-/
import Derived.Test.YtdklpgphmoaniaaGreatDoorChecked
import GoSem.Claim
import GoSem.ClaimJoined
import GoSem.ClaimMapViews
import Derived.JoinedTies
import Derived.KernelRfl
namespace Go.Proofs.YtdklpgphmoaniaaGreatDoor
/- THE CELL 'sum', in the pinned program and in every row, IS THE sha256 OF THE DUMP (.gsa) THAT YtdklpgphmoaniaaGreatDoorProg.lean LOADS. Nothing in Lean hashes anything: it is a label: what it is worth is what the hold of that sum in a sandbox is worth. -/
noncomputable def Tryz.pinned : Pinned := { name := "ytdklpgphmoaniaagreatdoor", sum := "89bc1adaab97489b64cf4662aac84691b5338f7794b44ce656e6072af83b38b1", checked := Tryz.checked }
namespace Rows
def none {H : Type} : Left H := { results := [], args := [] }

/- WHAT THE LISTED PACKAGE-LEVEL VARIABLES READ AS WHEN THE CALL BEGINS. Each datum BY PROGRAM (the guide's laid-datum.mjs) off the statement by which the dump's own 'gosem.cut.vars' lays the variable. In a bare row this is a premise. The card (YtdklpgphmoaniaaGreatDoorCards.lean) ties it to the program's text. -/
def laid_apiary_eisen_units {H : Type} : DataW H := .agg [.agg [.lit (.int .i64 1), .lit (.int .i64 0)], .agg [.lit (.int .i64 0), .lit (.int .i64 1)], .agg [.lit (.int .i64 (-1)), .lit (.int .i64 1)], .agg [.lit (.int .i64 (-1)), .lit (.int .i64 0)], .agg [.lit (.int .i64 0), .lit (.int .i64 (-1))], .agg [.lit (.int .i64 1), .lit (.int .i64 (-1))]]
def laid_apiary_plane_ways {H : Type} : DataW H := .agg [.agg [.lit (.int .i64 1), .lit (.int .i64 1)], .agg [.lit (.int .i64 (-1)), .lit (.int .i64 2)], .agg [.lit (.int .i64 (-2)), .lit (.int .i64 1)], .agg [.lit (.int .i64 (-1)), .lit (.int .i64 (-1))], .agg [.lit (.int .i64 1), .lit (.int .i64 (-2))], .agg [.lit (.int .i64 2), .lit (.int .i64 (-1))]]
def laid_apiary_cell_digits {H : Type} : DataW H := .agg [.lit (.int .i64 0), .lit (.int .i64 1), .lit (.int .i64 5), .lit (.int .i64 6), .lit (.int .i64 3), .lit (.int .i64 2), .lit (.int .i64 4)]

/-- 'apiarylaw10.CoverNext': WHATEVER THE INPUT: true; the input reads as it did. -/
def coverNextSpec : ChangeSpec := { name := "coverNext", fn := fun _ => fun
  | [d1, d2, d3, d4] => { results := [.lit (.bool true)], args := [d1, d2, d3, d4] }
  | _ => none }
def coverNextRow : OpenClaim := { program := "ytdklpgphmoaniaagreatdoor", sum := "89bc1adaab97489b64cf4662aac84691b5338f7794b44ce656e6072af83b38b1", func := "apiary/apiarylaw10.CoverNext", spec := "coverNext", inPlace := ["math/bits.Add64", "math/bits.Sub64"], unfollowed := true, recurses := true, named := ["apiary/eisen.units", "apiary/cell.digits", "apiary/plane.ways"], apart := false, laid := [("apiary/eisen.units", laid_apiary_eisen_units), ("apiary/plane.ways", laid_apiary_plane_ways), ("apiary/cell.digits", laid_apiary_cell_digits)] }
def CoverNextSaid : Prop := coverNextRow.holds Tryz.pinned (OpenSpec.ofChange coverNextSpec)

/-- ITS FALSE NEIGHBOUR: 'it returns false'. Refute it at one input. -/
def coverNextWrong : ChangeSpec := { name := "coverNext", fn := fun _ => fun
  | [d1, d2, d3, d4] => { results := [.lit (.bool false)], args := [d1, d2, d3, d4] }
  | _ => none }
def CoverNextWrongFalsely : Prop := coverNextRow.holds Tryz.pinned (OpenSpec.ofChange coverNextWrong)

/-- 'apiarylaw10.CoverArgs': WHATEVER THE INPUT: true; the input reads as it did. -/
def coverArgsSpec : ChangeSpec := { name := "coverArgs", fn := fun _ => fun
  | [d1, d2, d3, d4] => { results := [.lit (.bool true)], args := [d1, d2, d3, d4] }
  | _ => none }
def coverArgsRow : OpenClaim := { program := "ytdklpgphmoaniaagreatdoor", sum := "89bc1adaab97489b64cf4662aac84691b5338f7794b44ce656e6072af83b38b1", func := "apiary/apiarylaw10.CoverArgs", spec := "coverArgs", inPlace := ["math/bits.Sub64", "math/bits.Add64"], unfollowed := true, recurses := true, named := ["apiary/eisen.units", "apiary/cell.digits", "apiary/plane.ways"], apart := false, laid := [("apiary/eisen.units", laid_apiary_eisen_units), ("apiary/plane.ways", laid_apiary_plane_ways), ("apiary/cell.digits", laid_apiary_cell_digits)] }
def CoverArgsSaid : Prop := coverArgsRow.holds Tryz.pinned (OpenSpec.ofChange coverArgsSpec)

/-- ITS FALSE NEIGHBOUR: 'it returns false'. Refute it at one input. -/
def coverArgsWrong : ChangeSpec := { name := "coverArgs", fn := fun _ => fun
  | [d1, d2, d3, d4] => { results := [.lit (.bool false)], args := [d1, d2, d3, d4] }
  | _ => none }
def CoverArgsWrongFalsely : Prop := coverArgsRow.holds Tryz.pinned (OpenSpec.ofChange coverArgsWrong)

/-- 'apiarylaw10.CoverSizes': WHATEVER THE INPUT: true; the input reads as it did. -/
def coverSizesSpec : ChangeSpec := { name := "coverSizes", fn := fun _ => fun
  | [d1, d2, d3] => { results := [.lit (.bool true)], args := [d1, d2, d3] }
  | _ => none }
def coverSizesRow : OpenClaim := { program := "ytdklpgphmoaniaagreatdoor", sum := "89bc1adaab97489b64cf4662aac84691b5338f7794b44ce656e6072af83b38b1", func := "apiary/apiarylaw10.CoverSizes", spec := "coverSizes", inPlace := ["math/bits.Add64", "math/bits.Sub64"], unfollowed := true, recurses := true, named := ["apiary/eisen.units", "apiary/cell.digits", "apiary/plane.ways"], apart := false, laid := [("apiary/eisen.units", laid_apiary_eisen_units), ("apiary/plane.ways", laid_apiary_plane_ways), ("apiary/cell.digits", laid_apiary_cell_digits)] }
def CoverSizesSaid : Prop := coverSizesRow.holds Tryz.pinned (OpenSpec.ofChange coverSizesSpec)

/-- ITS FALSE NEIGHBOUR: 'it returns false'. Refute it at one input. -/
def coverSizesWrong : ChangeSpec := { name := "coverSizes", fn := fun _ => fun
  | [d1, d2, d3] => { results := [.lit (.bool false)], args := [d1, d2, d3] }
  | _ => none }
def CoverSizesWrongFalsely : Prop := coverSizesRow.holds Tryz.pinned (OpenSpec.ofChange coverSizesWrong)

/-- 'apiarylaw10.CoverTouches': WHATEVER THE INPUT: true; the input reads as it did. -/
def coverTouchesSpec : ChangeSpec := { name := "coverTouches", fn := fun _ => fun
  | [d1, d2, d3, d4, d5, d6, d7] => { results := [.lit (.bool true)], args := [d1, d2, d3, d4, d5, d6, d7] }
  | _ => none }
def coverTouchesRow : OpenClaim := { program := "ytdklpgphmoaniaagreatdoor", sum := "89bc1adaab97489b64cf4662aac84691b5338f7794b44ce656e6072af83b38b1", func := "apiary/apiarylaw10.CoverTouches", spec := "coverTouches", inPlace := ["math/bits.Sub64", "math/bits.Add64"], unfollowed := true, recurses := true, named := ["apiary/cell.digits", "apiary/eisen.units", "apiary/plane.ways"], apart := false, laid := [("apiary/eisen.units", laid_apiary_eisen_units), ("apiary/plane.ways", laid_apiary_plane_ways), ("apiary/cell.digits", laid_apiary_cell_digits)] }
def CoverTouchesSaid : Prop := coverTouchesRow.holds Tryz.pinned (OpenSpec.ofChange coverTouchesSpec)

/-- ITS FALSE NEIGHBOUR: 'it returns false'. Refute it at one input. -/
def coverTouchesWrong : ChangeSpec := { name := "coverTouches", fn := fun _ => fun
  | [d1, d2, d3, d4, d5, d6, d7] => { results := [.lit (.bool false)], args := [d1, d2, d3, d4, d5, d6, d7] }
  | _ => none }
def CoverTouchesWrongFalsely : Prop := coverTouchesRow.holds Tryz.pinned (OpenSpec.ofChange coverTouchesWrong)

/-- 'apiarylaw10.CoverBoxes': WHATEVER THE INPUT: true; the input reads as it did. -/
def coverBoxesSpec : ChangeSpec := { name := "coverBoxes", fn := fun _ => fun
  | [d1, d2, d3, d4, d5, d6, d7, d8] => { results := [.lit (.bool true)], args := [d1, d2, d3, d4, d5, d6, d7, d8] }
  | _ => none }
def coverBoxesRow : OpenClaim := { program := "ytdklpgphmoaniaagreatdoor", sum := "89bc1adaab97489b64cf4662aac84691b5338f7794b44ce656e6072af83b38b1", func := "apiary/apiarylaw10.CoverBoxes", spec := "coverBoxes", inPlace := ["math/bits.Sub64", "math/bits.Add64"], unfollowed := true, recurses := true, named := ["apiary/eisen.units", "apiary/cell.digits", "apiary/plane.ways"], apart := false, laid := [("apiary/eisen.units", laid_apiary_eisen_units), ("apiary/plane.ways", laid_apiary_plane_ways), ("apiary/cell.digits", laid_apiary_cell_digits)] }
def CoverBoxesSaid : Prop := coverBoxesRow.holds Tryz.pinned (OpenSpec.ofChange coverBoxesSpec)

/-- ITS FALSE NEIGHBOUR: 'it returns false'. Refute it at one input. -/
def coverBoxesWrong : ChangeSpec := { name := "coverBoxes", fn := fun _ => fun
  | [d1, d2, d3, d4, d5, d6, d7, d8] => { results := [.lit (.bool false)], args := [d1, d2, d3, d4, d5, d6, d7, d8] }
  | _ => none }
def CoverBoxesWrongFalsely : Prop := coverBoxesRow.holds Tryz.pinned (OpenSpec.ofChange coverBoxesWrong)

/-- 'apiarylaw10.CoverPoints': WHATEVER THE INPUT: true; the input reads as it did. -/
def coverPointsSpec : ChangeSpec := { name := "coverPoints", fn := fun _ => fun
  | [d1, d2, d3, d4, d5, d6, d7] => { results := [.lit (.bool true)], args := [d1, d2, d3, d4, d5, d6, d7] }
  | _ => none }
def coverPointsRow : OpenClaim := { program := "ytdklpgphmoaniaagreatdoor", sum := "89bc1adaab97489b64cf4662aac84691b5338f7794b44ce656e6072af83b38b1", func := "apiary/apiarylaw10.CoverPoints", spec := "coverPoints", inPlace := ["math/bits.Sub64", "math/bits.Add64"], unfollowed := true, recurses := true, named := ["apiary/cell.digits", "apiary/eisen.units", "apiary/plane.ways"], apart := false, laid := [("apiary/eisen.units", laid_apiary_eisen_units), ("apiary/plane.ways", laid_apiary_plane_ways), ("apiary/cell.digits", laid_apiary_cell_digits)] }
def CoverPointsSaid : Prop := coverPointsRow.holds Tryz.pinned (OpenSpec.ofChange coverPointsSpec)

/-- ITS FALSE NEIGHBOUR: 'it returns false'. Refute it at one input. -/
def coverPointsWrong : ChangeSpec := { name := "coverPoints", fn := fun _ => fun
  | [d1, d2, d3, d4, d5, d6, d7] => { results := [.lit (.bool false)], args := [d1, d2, d3, d4, d5, d6, d7] }
  | _ => none }
def CoverPointsWrongFalsely : Prop := coverPointsRow.holds Tryz.pinned (OpenSpec.ofChange coverPointsWrong)

/- THE SECOND FORM. 'bulk': how many values and letters a reading holds, each counted each time it is reached (what is shared counts as often as it is met; a slice's spare places count too). A statement '..UptoSaid' is the law's where the arguments, and the package variables that the reading takes, are together of bulk at most 1048576: NARROWER than '..Said'. Prove '..Said' where nothing that the law and all that it calls make is longer than what came in: it says more and counts as full. Else prove '..UptoSaid'. A law counts once. -/
mutual
def uptoBulk {H : Type} : DataW H → Nat
  | .lit (.string bytes) => bytes.length + 1
  | .lit _ => 1
  | .nil => 1
  | .ptr d => uptoBulk d + 1
  | .slice elems spare => uptoBulkAll elems + uptoBulkAll spare + 1
  | .agg parts => uptoBulkAll parts + 1
  | .iface _ d => uptoBulk d + 1
  | .map entries => uptoBulkEntries entries + 1
  | .held _ => 1
def uptoBulkAll {H : Type} : List (DataW H) → Nat
  | [] => 0
  | d :: r => uptoBulk d + uptoBulkAll r
def uptoBulkEntries {H : Type} : List (Lit × DataW H) → Nat
  | [] => 0
  | x :: r => uptoBulkEntry x + uptoBulkEntries r
def uptoBulkEntry {H : Type} : Lit × DataW H → Nat
  | (.string bytes, d) => bytes.length + uptoBulk d + 1
  | (_, d) => uptoBulk d + 1
 end
def uptoSmall : (H : Type) → List (DataW H) → Bool := fun _ ds => decide (uptoBulkAll ds ≤ 1048576)
def OpenSpec.upto (s : _root_.Go.ChangeSpec) : _root_.Go.OpenSpec := { _root_.Go.OpenSpec.ofChange s with cond := some uptoSmall }

/-- 'apiarylaw10.CoverNext', WHERE WHAT IT READS IS OF BULK AT MOST 1048576: true; the input reads as it did. -/
def coverNextUptoRow : OpenClaim := { program := "ytdklpgphmoaniaagreatdoor", sum := "89bc1adaab97489b64cf4662aac84691b5338f7794b44ce656e6072af83b38b1", func := "apiary/apiarylaw10.CoverNext", spec := "coverNext", inPlace := ["math/bits.Add64", "math/bits.Sub64"], unfollowed := true, recurses := true, named := ["apiary/eisen.units", "apiary/cell.digits", "apiary/plane.ways"], apart := false, laid := [("apiary/eisen.units", laid_apiary_eisen_units), ("apiary/plane.ways", laid_apiary_plane_ways), ("apiary/cell.digits", laid_apiary_cell_digits)], narrowed := true }
def CoverNextUptoSaid : Prop := coverNextUptoRow.holds Tryz.pinned (OpenSpec.upto coverNextSpec)

/-- 'apiarylaw10.CoverArgs', WHERE WHAT IT READS IS OF BULK AT MOST 1048576: true; the input reads as it did. -/
def coverArgsUptoRow : OpenClaim := { program := "ytdklpgphmoaniaagreatdoor", sum := "89bc1adaab97489b64cf4662aac84691b5338f7794b44ce656e6072af83b38b1", func := "apiary/apiarylaw10.CoverArgs", spec := "coverArgs", inPlace := ["math/bits.Sub64", "math/bits.Add64"], unfollowed := true, recurses := true, named := ["apiary/eisen.units", "apiary/cell.digits", "apiary/plane.ways"], apart := false, laid := [("apiary/eisen.units", laid_apiary_eisen_units), ("apiary/plane.ways", laid_apiary_plane_ways), ("apiary/cell.digits", laid_apiary_cell_digits)], narrowed := true }
def CoverArgsUptoSaid : Prop := coverArgsUptoRow.holds Tryz.pinned (OpenSpec.upto coverArgsSpec)

/-- 'apiarylaw10.CoverSizes', WHERE WHAT IT READS IS OF BULK AT MOST 1048576: true; the input reads as it did. -/
def coverSizesUptoRow : OpenClaim := { program := "ytdklpgphmoaniaagreatdoor", sum := "89bc1adaab97489b64cf4662aac84691b5338f7794b44ce656e6072af83b38b1", func := "apiary/apiarylaw10.CoverSizes", spec := "coverSizes", inPlace := ["math/bits.Add64", "math/bits.Sub64"], unfollowed := true, recurses := true, named := ["apiary/eisen.units", "apiary/cell.digits", "apiary/plane.ways"], apart := false, laid := [("apiary/eisen.units", laid_apiary_eisen_units), ("apiary/plane.ways", laid_apiary_plane_ways), ("apiary/cell.digits", laid_apiary_cell_digits)], narrowed := true }
def CoverSizesUptoSaid : Prop := coverSizesUptoRow.holds Tryz.pinned (OpenSpec.upto coverSizesSpec)

/-- 'apiarylaw10.CoverTouches', WHERE WHAT IT READS IS OF BULK AT MOST 1048576: true; the input reads as it did. -/
def coverTouchesUptoRow : OpenClaim := { program := "ytdklpgphmoaniaagreatdoor", sum := "89bc1adaab97489b64cf4662aac84691b5338f7794b44ce656e6072af83b38b1", func := "apiary/apiarylaw10.CoverTouches", spec := "coverTouches", inPlace := ["math/bits.Sub64", "math/bits.Add64"], unfollowed := true, recurses := true, named := ["apiary/cell.digits", "apiary/eisen.units", "apiary/plane.ways"], apart := false, laid := [("apiary/eisen.units", laid_apiary_eisen_units), ("apiary/plane.ways", laid_apiary_plane_ways), ("apiary/cell.digits", laid_apiary_cell_digits)], narrowed := true }
def CoverTouchesUptoSaid : Prop := coverTouchesUptoRow.holds Tryz.pinned (OpenSpec.upto coverTouchesSpec)

/-- 'apiarylaw10.CoverBoxes', WHERE WHAT IT READS IS OF BULK AT MOST 1048576: true; the input reads as it did. -/
def coverBoxesUptoRow : OpenClaim := { program := "ytdklpgphmoaniaagreatdoor", sum := "89bc1adaab97489b64cf4662aac84691b5338f7794b44ce656e6072af83b38b1", func := "apiary/apiarylaw10.CoverBoxes", spec := "coverBoxes", inPlace := ["math/bits.Sub64", "math/bits.Add64"], unfollowed := true, recurses := true, named := ["apiary/eisen.units", "apiary/cell.digits", "apiary/plane.ways"], apart := false, laid := [("apiary/eisen.units", laid_apiary_eisen_units), ("apiary/plane.ways", laid_apiary_plane_ways), ("apiary/cell.digits", laid_apiary_cell_digits)], narrowed := true }
def CoverBoxesUptoSaid : Prop := coverBoxesUptoRow.holds Tryz.pinned (OpenSpec.upto coverBoxesSpec)

/-- 'apiarylaw10.CoverPoints', WHERE WHAT IT READS IS OF BULK AT MOST 1048576: true; the input reads as it did. -/
def coverPointsUptoRow : OpenClaim := { program := "ytdklpgphmoaniaagreatdoor", sum := "89bc1adaab97489b64cf4662aac84691b5338f7794b44ce656e6072af83b38b1", func := "apiary/apiarylaw10.CoverPoints", spec := "coverPoints", inPlace := ["math/bits.Sub64", "math/bits.Add64"], unfollowed := true, recurses := true, named := ["apiary/cell.digits", "apiary/eisen.units", "apiary/plane.ways"], apart := false, laid := [("apiary/eisen.units", laid_apiary_eisen_units), ("apiary/plane.ways", laid_apiary_plane_ways), ("apiary/cell.digits", laid_apiary_cell_digits)], narrowed := true }
def CoverPointsUptoSaid : Prop := coverPointsUptoRow.holds Tryz.pinned (OpenSpec.upto coverPointsSpec)

end Rows
end Go.Proofs.YtdklpgphmoaniaaGreatDoor
