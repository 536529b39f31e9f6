/-
  NARROWER THAN 'FOR EVERY INPUT', by the rows' own cells (each row's printed sentence says how): CellUps: laid · CellEdge: laid · CellWorld: laid · CellTells: laid · CellOf: laid · CellFamily: laid.
  DERIVED. THE GIVEN ROWS OF THIS SEAT. 6 by the template 'for every input the law returns true; each argument reads behind the call as it read before'; 0 by the template 'total and deterministic' (their statements: YtnnbdlnginkldaaDoorTotals.lean).
  GIVEN WITH THE SEED: the statements are not yours to turn. If you find one false, say at which input.
  Laid BY PROGRAM, IN A SANDBOX (cutbox-rows.mjs): the forced cells as the released guide's own fill.sh prints them over the translation 8777b5b402c85a84… (all of the seat's roots in one cut). By AI agents, Wed Nov 11 2026. No macro, syntax, notation, axiom, sorry.
-/
import Derived.Test.YtnnbdlnginkldaaDoorChecked
import GoSem.Claim
import GoSem.ClaimJoined
import GoSem.ClaimMapViews
import Derived.JoinedTies
import Derived.KernelRfl
namespace Go.Proofs.YtnnbdlnginkldaaDoor
/- THE CELL 'sum', in the pinned program and in every row, IS THE sha256 OF THE DUMP (.gsa) THAT YtnnbdlnginkldaaDoorProg.lean LOADS. Nothing in Lean hashes anything: it is a label: what it is worth is what the hold of that sum in a sandbox is worth. -/
noncomputable def Tryd.pinned : Pinned := { name := "ytnnbdlnginkldaadoor", sum := "8777b5b402c85a84187aac784a59cfeab058bd64125273712dec889b8350d00f", checked := Tryd.checked }
namespace Rows
def none {H : Type} : Left H := { results := [], args := [] }

/- WHAT THE LISTED PACKAGE-LEVEL VARIABLES READ AS WHEN THE CALL BEGINS. Each datum BY PROGRAM (the guide's laid-datum.mjs) off the statement by which the dump's own 'gosem.cut.vars' lays the variable. In a bare row this is a premise. The card (YtnnbdlnginkldaaDoorCards.lean) ties it to the program's text. -/
def laid_apiary_eisen_units {H : Type} : DataW H := .agg [.agg [.lit (.int .i64 1), .lit (.int .i64 0)], .agg [.lit (.int .i64 0), .lit (.int .i64 1)], .agg [.lit (.int .i64 (-1)), .lit (.int .i64 1)], .agg [.lit (.int .i64 (-1)), .lit (.int .i64 0)], .agg [.lit (.int .i64 0), .lit (.int .i64 (-1))], .agg [.lit (.int .i64 1), .lit (.int .i64 (-1))]]
def laid_apiary_cell_digits {H : Type} : DataW H := .agg [.lit (.int .i64 0), .lit (.int .i64 1), .lit (.int .i64 5), .lit (.int .i64 6), .lit (.int .i64 3), .lit (.int .i64 2), .lit (.int .i64 4)]

/-- 'apiarylaw4.CellUps': WHATEVER THE INPUT: true; the input reads as it did. -/
def cellUpsSpec : ChangeSpec := { name := "cellUps", fn := fun _ => fun
  | [d1, d2, d3, d4, d5] => { results := [.lit (.bool true)], args := [d1, d2, d3, d4, d5] }
  | _ => none }
def cellUpsRow : OpenClaim := { program := "ytnnbdlnginkldaadoor", sum := "8777b5b402c85a84187aac784a59cfeab058bd64125273712dec889b8350d00f", func := "apiary/apiarylaw4.CellUps", spec := "cellUps", inPlace := ["math/bits.Add64", "math/bits.Sub64"], unfollowed := true, recurses := true, named := ["apiary/cell.digits", "apiary/eisen.units"], apart := false, laid := [("apiary/eisen.units", laid_apiary_eisen_units), ("apiary/cell.digits", laid_apiary_cell_digits)] }
def CellUpsSaid : Prop := cellUpsRow.holds Tryd.pinned (OpenSpec.ofChange cellUpsSpec)

/-- ITS FALSE NEIGHBOUR: 'it returns false'. Refute it at one input. -/
def cellUpsWrong : ChangeSpec := { name := "cellUps", fn := fun _ => fun
  | [d1, d2, d3, d4, d5] => { results := [.lit (.bool false)], args := [d1, d2, d3, d4, d5] }
  | _ => none }
def CellUpsWrongFalsely : Prop := cellUpsRow.holds Tryd.pinned (OpenSpec.ofChange cellUpsWrong)

/-- 'apiarylaw4.CellEdge': WHATEVER THE INPUT: true; the input reads as it did. -/
def cellEdgeSpec : ChangeSpec := { name := "cellEdge", fn := fun _ => fun
  | [d1, d2, d3] => { results := [.lit (.bool true)], args := [d1, d2, d3] }
  | _ => none }
def cellEdgeRow : OpenClaim := { program := "ytnnbdlnginkldaadoor", sum := "8777b5b402c85a84187aac784a59cfeab058bd64125273712dec889b8350d00f", func := "apiary/apiarylaw4.CellEdge", spec := "cellEdge", inPlace := ["math/bits.Sub64", "math/bits.Add64"], unfollowed := true, recurses := true, named := ["apiary/cell.digits", "apiary/eisen.units"], apart := false, laid := [("apiary/eisen.units", laid_apiary_eisen_units), ("apiary/cell.digits", laid_apiary_cell_digits)] }
def CellEdgeSaid : Prop := cellEdgeRow.holds Tryd.pinned (OpenSpec.ofChange cellEdgeSpec)

/-- ITS FALSE NEIGHBOUR: 'it returns false'. Refute it at one input. -/
def cellEdgeWrong : ChangeSpec := { name := "cellEdge", fn := fun _ => fun
  | [d1, d2, d3] => { results := [.lit (.bool false)], args := [d1, d2, d3] }
  | _ => none }
def CellEdgeWrongFalsely : Prop := cellEdgeRow.holds Tryd.pinned (OpenSpec.ofChange cellEdgeWrong)

/-- 'apiarylaw4.CellWorld': WHATEVER THE INPUT: true; the input reads as it did. -/
def cellWorldSpec : ChangeSpec := { name := "cellWorld", fn := fun _ => fun
  | [d1, d2, d3] => { results := [.lit (.bool true)], args := [d1, d2, d3] }
  | _ => none }
def cellWorldRow : OpenClaim := { program := "ytnnbdlnginkldaadoor", sum := "8777b5b402c85a84187aac784a59cfeab058bd64125273712dec889b8350d00f", func := "apiary/apiarylaw4.CellWorld", spec := "cellWorld", inPlace := ["math/bits.Sub64", "math/bits.Add64"], unfollowed := true, recurses := true, named := ["apiary/cell.digits", "apiary/eisen.units"], apart := false, laid := [("apiary/eisen.units", laid_apiary_eisen_units), ("apiary/cell.digits", laid_apiary_cell_digits)] }
def CellWorldSaid : Prop := cellWorldRow.holds Tryd.pinned (OpenSpec.ofChange cellWorldSpec)

/-- ITS FALSE NEIGHBOUR: 'it returns false'. Refute it at one input. -/
def cellWorldWrong : ChangeSpec := { name := "cellWorld", fn := fun _ => fun
  | [d1, d2, d3] => { results := [.lit (.bool false)], args := [d1, d2, d3] }
  | _ => none }
def CellWorldWrongFalsely : Prop := cellWorldRow.holds Tryd.pinned (OpenSpec.ofChange cellWorldWrong)

/-- 'apiarylaw4.CellTells': WHATEVER THE INPUT: true; the input reads as it did. -/
def cellTellsSpec : ChangeSpec := { name := "cellTells", fn := fun _ => fun
  | [d1, d2, d3, d4, d5] => { results := [.lit (.bool true)], args := [d1, d2, d3, d4, d5] }
  | _ => none }
def cellTellsRow : OpenClaim := { program := "ytnnbdlnginkldaadoor", sum := "8777b5b402c85a84187aac784a59cfeab058bd64125273712dec889b8350d00f", func := "apiary/apiarylaw4.CellTells", spec := "cellTells", inPlace := ["math/bits.Sub64", "math/bits.Add64"], unfollowed := true, recurses := true, named := ["apiary/cell.digits", "apiary/eisen.units"], apart := false, laid := [("apiary/eisen.units", laid_apiary_eisen_units), ("apiary/cell.digits", laid_apiary_cell_digits)] }
def CellTellsSaid : Prop := cellTellsRow.holds Tryd.pinned (OpenSpec.ofChange cellTellsSpec)

/-- ITS FALSE NEIGHBOUR: 'it returns false'. Refute it at one input. -/
def cellTellsWrong : ChangeSpec := { name := "cellTells", fn := fun _ => fun
  | [d1, d2, d3, d4, d5] => { results := [.lit (.bool false)], args := [d1, d2, d3, d4, d5] }
  | _ => none }
def CellTellsWrongFalsely : Prop := cellTellsRow.holds Tryd.pinned (OpenSpec.ofChange cellTellsWrong)

/-- 'apiarylaw4.CellOf': WHATEVER THE INPUT: true; the input reads as it did. -/
def cellOfSpec : ChangeSpec := { name := "cellOf", fn := fun _ => fun
  | [d1, d2, d3] => { results := [.lit (.bool true)], args := [d1, d2, d3] }
  | _ => none }
def cellOfRow : OpenClaim := { program := "ytnnbdlnginkldaadoor", sum := "8777b5b402c85a84187aac784a59cfeab058bd64125273712dec889b8350d00f", func := "apiary/apiarylaw4.CellOf", spec := "cellOf", inPlace := ["math/bits.Sub64", "math/bits.Add64"], unfollowed := true, recurses := true, named := ["apiary/cell.digits", "apiary/eisen.units"], apart := false, laid := [("apiary/eisen.units", laid_apiary_eisen_units), ("apiary/cell.digits", laid_apiary_cell_digits)] }
def CellOfSaid : Prop := cellOfRow.holds Tryd.pinned (OpenSpec.ofChange cellOfSpec)

/-- ITS FALSE NEIGHBOUR: 'it returns false'. Refute it at one input. -/
def cellOfWrong : ChangeSpec := { name := "cellOf", fn := fun _ => fun
  | [d1, d2, d3] => { results := [.lit (.bool false)], args := [d1, d2, d3] }
  | _ => none }
def CellOfWrongFalsely : Prop := cellOfRow.holds Tryd.pinned (OpenSpec.ofChange cellOfWrong)

/-- 'apiarylaw4.CellFamily': WHATEVER THE INPUT: true; the input reads as it did. -/
def cellFamilySpec : ChangeSpec := { name := "cellFamily", fn := fun _ => fun
  | [d1, d2, d3] => { results := [.lit (.bool true)], args := [d1, d2, d3] }
  | _ => none }
def cellFamilyRow : OpenClaim := { program := "ytnnbdlnginkldaadoor", sum := "8777b5b402c85a84187aac784a59cfeab058bd64125273712dec889b8350d00f", func := "apiary/apiarylaw4.CellFamily", spec := "cellFamily", inPlace := ["math/bits.Add64", "math/bits.Sub64"], unfollowed := true, recurses := true, named := ["apiary/cell.digits", "apiary/eisen.units"], apart := false, laid := [("apiary/eisen.units", laid_apiary_eisen_units), ("apiary/cell.digits", laid_apiary_cell_digits)] }
def CellFamilySaid : Prop := cellFamilyRow.holds Tryd.pinned (OpenSpec.ofChange cellFamilySpec)

/-- ITS FALSE NEIGHBOUR: 'it returns false'. Refute it at one input. -/
def cellFamilyWrong : ChangeSpec := { name := "cellFamily", fn := fun _ => fun
  | [d1, d2, d3] => { results := [.lit (.bool false)], args := [d1, d2, d3] }
  | _ => none }
def CellFamilyWrongFalsely : Prop := cellFamilyRow.holds Tryd.pinned (OpenSpec.ofChange cellFamilyWrong)

/- THE SECOND FORM. 'bulk': how many values and letters a reading holds, each counted each time it is reached (what is shared counts as often as it is met; a slice's spare places count too). A statement '..UptoSaid' is the law's where the arguments, and the package variables that the reading takes, are together of bulk at most 1048576: NARROWER than '..Said'. Prove '..Said' where nothing that the law and all that it calls make is longer than what came in: it says more and counts as full. Else prove '..UptoSaid'. A law counts once. -/
mutual
def uptoBulk {H : Type} : DataW H → Nat
  | .lit (.string bytes) => bytes.length + 1
  | .lit _ => 1
  | .nil => 1
  | .ptr d => uptoBulk d + 1
  | .slice elems spare => uptoBulkAll elems + uptoBulkAll spare + 1
  | .agg parts => uptoBulkAll parts + 1
  | .iface _ d => uptoBulk d + 1
  | .map entries => uptoBulkEntries entries + 1
  | .held _ => 1
def uptoBulkAll {H : Type} : List (DataW H) → Nat
  | [] => 0
  | d :: r => uptoBulk d + uptoBulkAll r
def uptoBulkEntries {H : Type} : List (Lit × DataW H) → Nat
  | [] => 0
  | x :: r => uptoBulkEntry x + uptoBulkEntries r
def uptoBulkEntry {H : Type} : Lit × DataW H → Nat
  | (.string bytes, d) => bytes.length + uptoBulk d + 1
  | (_, d) => uptoBulk d + 1
 end
def uptoSmall : (H : Type) → List (DataW H) → Bool := fun _ ds => decide (uptoBulkAll ds ≤ 1048576)
def OpenSpec.upto (s : _root_.Go.ChangeSpec) : _root_.Go.OpenSpec := { _root_.Go.OpenSpec.ofChange s with cond := some uptoSmall }

/-- 'apiarylaw4.CellUps', WHERE WHAT IT READS IS OF BULK AT MOST 1048576: true; the input reads as it did. -/
def cellUpsUptoRow : OpenClaim := { program := "ytnnbdlnginkldaadoor", sum := "8777b5b402c85a84187aac784a59cfeab058bd64125273712dec889b8350d00f", func := "apiary/apiarylaw4.CellUps", spec := "cellUps", inPlace := ["math/bits.Add64", "math/bits.Sub64"], unfollowed := true, recurses := true, named := ["apiary/cell.digits", "apiary/eisen.units"], apart := false, laid := [("apiary/eisen.units", laid_apiary_eisen_units), ("apiary/cell.digits", laid_apiary_cell_digits)], narrowed := true }
def CellUpsUptoSaid : Prop := cellUpsUptoRow.holds Tryd.pinned (OpenSpec.upto cellUpsSpec)

/-- 'apiarylaw4.CellEdge', WHERE WHAT IT READS IS OF BULK AT MOST 1048576: true; the input reads as it did. -/
def cellEdgeUptoRow : OpenClaim := { program := "ytnnbdlnginkldaadoor", sum := "8777b5b402c85a84187aac784a59cfeab058bd64125273712dec889b8350d00f", func := "apiary/apiarylaw4.CellEdge", spec := "cellEdge", inPlace := ["math/bits.Sub64", "math/bits.Add64"], unfollowed := true, recurses := true, named := ["apiary/cell.digits", "apiary/eisen.units"], apart := false, laid := [("apiary/eisen.units", laid_apiary_eisen_units), ("apiary/cell.digits", laid_apiary_cell_digits)], narrowed := true }
def CellEdgeUptoSaid : Prop := cellEdgeUptoRow.holds Tryd.pinned (OpenSpec.upto cellEdgeSpec)

/-- 'apiarylaw4.CellWorld', WHERE WHAT IT READS IS OF BULK AT MOST 1048576: true; the input reads as it did. -/
def cellWorldUptoRow : OpenClaim := { program := "ytnnbdlnginkldaadoor", sum := "8777b5b402c85a84187aac784a59cfeab058bd64125273712dec889b8350d00f", func := "apiary/apiarylaw4.CellWorld", spec := "cellWorld", inPlace := ["math/bits.Sub64", "math/bits.Add64"], unfollowed := true, recurses := true, named := ["apiary/cell.digits", "apiary/eisen.units"], apart := false, laid := [("apiary/eisen.units", laid_apiary_eisen_units), ("apiary/cell.digits", laid_apiary_cell_digits)], narrowed := true }
def CellWorldUptoSaid : Prop := cellWorldUptoRow.holds Tryd.pinned (OpenSpec.upto cellWorldSpec)

/-- 'apiarylaw4.CellTells', WHERE WHAT IT READS IS OF BULK AT MOST 1048576: true; the input reads as it did. -/
def cellTellsUptoRow : OpenClaim := { program := "ytnnbdlnginkldaadoor", sum := "8777b5b402c85a84187aac784a59cfeab058bd64125273712dec889b8350d00f", func := "apiary/apiarylaw4.CellTells", spec := "cellTells", inPlace := ["math/bits.Sub64", "math/bits.Add64"], unfollowed := true, recurses := true, named := ["apiary/cell.digits", "apiary/eisen.units"], apart := false, laid := [("apiary/eisen.units", laid_apiary_eisen_units), ("apiary/cell.digits", laid_apiary_cell_digits)], narrowed := true }
def CellTellsUptoSaid : Prop := cellTellsUptoRow.holds Tryd.pinned (OpenSpec.upto cellTellsSpec)

/-- 'apiarylaw4.CellOf', WHERE WHAT IT READS IS OF BULK AT MOST 1048576: true; the input reads as it did. -/
def cellOfUptoRow : OpenClaim := { program := "ytnnbdlnginkldaadoor", sum := "8777b5b402c85a84187aac784a59cfeab058bd64125273712dec889b8350d00f", func := "apiary/apiarylaw4.CellOf", spec := "cellOf", inPlace := ["math/bits.Sub64", "math/bits.Add64"], unfollowed := true, recurses := true, named := ["apiary/cell.digits", "apiary/eisen.units"], apart := false, laid := [("apiary/eisen.units", laid_apiary_eisen_units), ("apiary/cell.digits", laid_apiary_cell_digits)], narrowed := true }
def CellOfUptoSaid : Prop := cellOfUptoRow.holds Tryd.pinned (OpenSpec.upto cellOfSpec)

/-- 'apiarylaw4.CellFamily', WHERE WHAT IT READS IS OF BULK AT MOST 1048576: true; the input reads as it did. -/
def cellFamilyUptoRow : OpenClaim := { program := "ytnnbdlnginkldaadoor", sum := "8777b5b402c85a84187aac784a59cfeab058bd64125273712dec889b8350d00f", func := "apiary/apiarylaw4.CellFamily", spec := "cellFamily", inPlace := ["math/bits.Add64", "math/bits.Sub64"], unfollowed := true, recurses := true, named := ["apiary/cell.digits", "apiary/eisen.units"], apart := false, laid := [("apiary/eisen.units", laid_apiary_eisen_units), ("apiary/cell.digits", laid_apiary_cell_digits)], narrowed := true }
def CellFamilyUptoSaid : Prop := cellFamilyUptoRow.holds Tryd.pinned (OpenSpec.upto cellFamilySpec)

end Rows
end Go.Proofs.YtnnbdlnginkldaaDoor
