/-
  NARROWER THAN 'FOR EVERY INPUT', by the rows' own cells (each row's printed sentence says how): NearBack: laid · NearKids: laid · NearRings: laid · NearTells: laid · NearLines: laid.
  DERIVED. THE GIVEN ROWS OF THIS SEAT. 5 by the template 'for every input the law returns true; each argument reads behind the call as it read before'; 0 by the template 'total and deterministic' (their statements: YteipijgkiobmaaaGreatDoorTotals.lean).
  GIVEN WITH THE SEED: the statements are not yours to turn. If you find one false, say at which input.
  Laid BY PROGRAM, IN A SANDBOX (cutbox-rows.mjs): the forced cells as the released guide's own fill.sh prints them over the translation 9354c16ea545fc24… (all of the seat's roots in one cut). By AI agents, Wed Nov 11 2026. No macro, syntax, notation, axiom, sorry.
-/
import Derived.Test.YteipijgkiobmaaaGreatDoorChecked
import GoSem.Claim
import GoSem.ClaimJoined
import GoSem.ClaimMapViews
import Derived.JoinedTies
import Derived.KernelRfl
namespace Go.Proofs.YteipijgkiobmaaaGreatDoor
/- THE CELL 'sum', in the pinned program and in every row, IS THE sha256 OF THE DUMP (.gsa) THAT YteipijgkiobmaaaGreatDoorProg.lean LOADS. Nothing in Lean hashes anything: it is a label: what it is worth is what the hold of that sum in a sandbox is worth. -/
noncomputable def Tryz.pinned : Pinned := { name := "yteipijgkiobmaaagreatdoor", sum := "9354c16ea545fc247fc267b8a236a67b3bd151ac233bb7c26dcfcf452dee2bfc", checked := Tryz.checked }
namespace Rows
def none {H : Type} : Left H := { results := [], args := [] }

/- WHAT THE LISTED PACKAGE-LEVEL VARIABLES READ AS WHEN THE CALL BEGINS. Each datum BY PROGRAM (the guide's laid-datum.mjs) off the statement by which the dump's own 'gosem.cut.vars' lays the variable. In a bare row this is a premise. The card (YteipijgkiobmaaaGreatDoorCards.lean) ties it to the program's text. -/
def laid_apiary_eisen_units {H : Type} : DataW H := .agg [.agg [.lit (.int .i64 1), .lit (.int .i64 0)], .agg [.lit (.int .i64 0), .lit (.int .i64 1)], .agg [.lit (.int .i64 (-1)), .lit (.int .i64 1)], .agg [.lit (.int .i64 (-1)), .lit (.int .i64 0)], .agg [.lit (.int .i64 0), .lit (.int .i64 (-1))], .agg [.lit (.int .i64 1), .lit (.int .i64 (-1))]]
def laid_apiary_cell_digits {H : Type} : DataW H := .agg [.lit (.int .i64 0), .lit (.int .i64 1), .lit (.int .i64 5), .lit (.int .i64 6), .lit (.int .i64 3), .lit (.int .i64 2), .lit (.int .i64 4)]

/-- 'apiarylaw6.NearBack': WHATEVER THE INPUT: true; the input reads as it did. -/
def nearBackSpec : ChangeSpec := { name := "nearBack", fn := fun _ => fun
  | [d1, d2, d3, d4] => { results := [.lit (.bool true)], args := [d1, d2, d3, d4] }
  | _ => none }
def nearBackRow : OpenClaim := { program := "yteipijgkiobmaaagreatdoor", sum := "9354c16ea545fc247fc267b8a236a67b3bd151ac233bb7c26dcfcf452dee2bfc", func := "apiary/apiarylaw6.NearBack", spec := "nearBack", inPlace := ["math/bits.Add64", "math/bits.Sub64"], unfollowed := true, recurses := true, named := ["apiary/cell.digits", "apiary/eisen.units"], apart := false, laid := [("apiary/eisen.units", laid_apiary_eisen_units), ("apiary/cell.digits", laid_apiary_cell_digits)] }
def NearBackSaid : Prop := nearBackRow.holds Tryz.pinned (OpenSpec.ofChange nearBackSpec)

/-- ITS FALSE NEIGHBOUR: 'it returns false'. Refute it at one input. -/
def nearBackWrong : ChangeSpec := { name := "nearBack", fn := fun _ => fun
  | [d1, d2, d3, d4] => { results := [.lit (.bool false)], args := [d1, d2, d3, d4] }
  | _ => none }
def NearBackWrongFalsely : Prop := nearBackRow.holds Tryz.pinned (OpenSpec.ofChange nearBackWrong)

/-- 'apiarylaw6.NearKids': WHATEVER THE INPUT: true; the input reads as it did. -/
def nearKidsSpec : ChangeSpec := { name := "nearKids", fn := fun _ => fun
  | [d1, d2, d3] => { results := [.lit (.bool true)], args := [d1, d2, d3] }
  | _ => none }
def nearKidsRow : OpenClaim := { program := "yteipijgkiobmaaagreatdoor", sum := "9354c16ea545fc247fc267b8a236a67b3bd151ac233bb7c26dcfcf452dee2bfc", func := "apiary/apiarylaw6.NearKids", spec := "nearKids", inPlace := ["math/bits.Add64", "math/bits.Sub64"], unfollowed := true, recurses := true, named := ["apiary/cell.digits", "apiary/eisen.units"], apart := false, laid := [("apiary/eisen.units", laid_apiary_eisen_units), ("apiary/cell.digits", laid_apiary_cell_digits)] }
def NearKidsSaid : Prop := nearKidsRow.holds Tryz.pinned (OpenSpec.ofChange nearKidsSpec)

/-- ITS FALSE NEIGHBOUR: 'it returns false'. Refute it at one input. -/
def nearKidsWrong : ChangeSpec := { name := "nearKids", fn := fun _ => fun
  | [d1, d2, d3] => { results := [.lit (.bool false)], args := [d1, d2, d3] }
  | _ => none }
def NearKidsWrongFalsely : Prop := nearKidsRow.holds Tryz.pinned (OpenSpec.ofChange nearKidsWrong)

/-- 'apiarylaw6.NearRings': WHATEVER THE INPUT: true; the input reads as it did. -/
def nearRingsSpec : ChangeSpec := { name := "nearRings", fn := fun _ => fun
  | [d1, d2, d3, d4, d5] => { results := [.lit (.bool true)], args := [d1, d2, d3, d4, d5] }
  | _ => none }
def nearRingsRow : OpenClaim := { program := "yteipijgkiobmaaagreatdoor", sum := "9354c16ea545fc247fc267b8a236a67b3bd151ac233bb7c26dcfcf452dee2bfc", func := "apiary/apiarylaw6.NearRings", spec := "nearRings", inPlace := ["math/bits.Add64", "math/bits.Sub64"], unfollowed := true, recurses := true, named := ["apiary/cell.digits", "apiary/eisen.units"], apart := false, laid := [("apiary/eisen.units", laid_apiary_eisen_units), ("apiary/cell.digits", laid_apiary_cell_digits)] }
def NearRingsSaid : Prop := nearRingsRow.holds Tryz.pinned (OpenSpec.ofChange nearRingsSpec)

/-- ITS FALSE NEIGHBOUR: 'it returns false'. Refute it at one input. -/
def nearRingsWrong : ChangeSpec := { name := "nearRings", fn := fun _ => fun
  | [d1, d2, d3, d4, d5] => { results := [.lit (.bool false)], args := [d1, d2, d3, d4, d5] }
  | _ => none }
def NearRingsWrongFalsely : Prop := nearRingsRow.holds Tryz.pinned (OpenSpec.ofChange nearRingsWrong)

/-- 'apiarylaw6.NearTells': WHATEVER THE INPUT: true; the input reads as it did. -/
def nearTellsSpec : ChangeSpec := { name := "nearTells", fn := fun _ => fun
  | [d1, d2, d3, d4, d5, d6, d7] => { results := [.lit (.bool true)], args := [d1, d2, d3, d4, d5, d6, d7] }
  | _ => none }
def nearTellsRow : OpenClaim := { program := "yteipijgkiobmaaagreatdoor", sum := "9354c16ea545fc247fc267b8a236a67b3bd151ac233bb7c26dcfcf452dee2bfc", func := "apiary/apiarylaw6.NearTells", spec := "nearTells", inPlace := ["math/bits.Add64", "math/bits.Sub64"], unfollowed := true, recurses := true, named := ["apiary/cell.digits", "apiary/eisen.units"], apart := false, laid := [("apiary/eisen.units", laid_apiary_eisen_units), ("apiary/cell.digits", laid_apiary_cell_digits)] }
def NearTellsSaid : Prop := nearTellsRow.holds Tryz.pinned (OpenSpec.ofChange nearTellsSpec)

/-- ITS FALSE NEIGHBOUR: 'it returns false'. Refute it at one input. -/
def nearTellsWrong : ChangeSpec := { name := "nearTells", fn := fun _ => fun
  | [d1, d2, d3, d4, d5, d6, d7] => { results := [.lit (.bool false)], args := [d1, d2, d3, d4, d5, d6, d7] }
  | _ => none }
def NearTellsWrongFalsely : Prop := nearTellsRow.holds Tryz.pinned (OpenSpec.ofChange nearTellsWrong)

/-- 'apiarylaw6.NearLines': WHATEVER THE INPUT: true; the input reads as it did. -/
def nearLinesSpec : ChangeSpec := { name := "nearLines", fn := fun _ => fun
  | [d1, d2, d3, d4, d5, d6] => { results := [.lit (.bool true)], args := [d1, d2, d3, d4, d5, d6] }
  | _ => none }
def nearLinesRow : OpenClaim := { program := "yteipijgkiobmaaagreatdoor", sum := "9354c16ea545fc247fc267b8a236a67b3bd151ac233bb7c26dcfcf452dee2bfc", func := "apiary/apiarylaw6.NearLines", spec := "nearLines", inPlace := ["math/bits.Add64", "math/bits.Sub64"], unfollowed := true, recurses := true, named := ["apiary/cell.digits", "apiary/eisen.units"], apart := false, laid := [("apiary/eisen.units", laid_apiary_eisen_units), ("apiary/cell.digits", laid_apiary_cell_digits)] }
def NearLinesSaid : Prop := nearLinesRow.holds Tryz.pinned (OpenSpec.ofChange nearLinesSpec)

/-- ITS FALSE NEIGHBOUR: 'it returns false'. Refute it at one input. -/
def nearLinesWrong : ChangeSpec := { name := "nearLines", fn := fun _ => fun
  | [d1, d2, d3, d4, d5, d6] => { results := [.lit (.bool false)], args := [d1, d2, d3, d4, d5, d6] }
  | _ => none }
def NearLinesWrongFalsely : Prop := nearLinesRow.holds Tryz.pinned (OpenSpec.ofChange nearLinesWrong)

/- THE SECOND FORM. 'bulk': how many values and letters a reading holds, each counted each time it is reached (what is shared counts as often as it is met; a slice's spare places count too). A statement '..UptoSaid' is the law's where the arguments, and the package variables that the reading takes, are together of bulk at most 1048576: NARROWER than '..Said'. Prove '..Said' where nothing that the law and all that it calls make is longer than what came in: it says more and counts as full. Else prove '..UptoSaid'. A law counts once. -/
mutual
def uptoBulk {H : Type} : DataW H → Nat
  | .lit (.string bytes) => bytes.length + 1
  | .lit _ => 1
  | .nil => 1
  | .ptr d => uptoBulk d + 1
  | .slice elems spare => uptoBulkAll elems + uptoBulkAll spare + 1
  | .agg parts => uptoBulkAll parts + 1
  | .iface _ d => uptoBulk d + 1
  | .map entries => uptoBulkEntries entries + 1
  | .held _ => 1
def uptoBulkAll {H : Type} : List (DataW H) → Nat
  | [] => 0
  | d :: r => uptoBulk d + uptoBulkAll r
def uptoBulkEntries {H : Type} : List (Lit × DataW H) → Nat
  | [] => 0
  | x :: r => uptoBulkEntry x + uptoBulkEntries r
def uptoBulkEntry {H : Type} : Lit × DataW H → Nat
  | (.string bytes, d) => bytes.length + uptoBulk d + 1
  | (_, d) => uptoBulk d + 1
 end
def uptoSmall : (H : Type) → List (DataW H) → Bool := fun _ ds => decide (uptoBulkAll ds ≤ 1048576)
def OpenSpec.upto (s : _root_.Go.ChangeSpec) : _root_.Go.OpenSpec := { _root_.Go.OpenSpec.ofChange s with cond := some uptoSmall }

/-- 'apiarylaw6.NearBack', WHERE WHAT IT READS IS OF BULK AT MOST 1048576: true; the input reads as it did. -/
def nearBackUptoRow : OpenClaim := { program := "yteipijgkiobmaaagreatdoor", sum := "9354c16ea545fc247fc267b8a236a67b3bd151ac233bb7c26dcfcf452dee2bfc", func := "apiary/apiarylaw6.NearBack", spec := "nearBack", inPlace := ["math/bits.Add64", "math/bits.Sub64"], unfollowed := true, recurses := true, named := ["apiary/cell.digits", "apiary/eisen.units"], apart := false, laid := [("apiary/eisen.units", laid_apiary_eisen_units), ("apiary/cell.digits", laid_apiary_cell_digits)], narrowed := true }
def NearBackUptoSaid : Prop := nearBackUptoRow.holds Tryz.pinned (OpenSpec.upto nearBackSpec)

/-- 'apiarylaw6.NearKids', WHERE WHAT IT READS IS OF BULK AT MOST 1048576: true; the input reads as it did. -/
def nearKidsUptoRow : OpenClaim := { program := "yteipijgkiobmaaagreatdoor", sum := "9354c16ea545fc247fc267b8a236a67b3bd151ac233bb7c26dcfcf452dee2bfc", func := "apiary/apiarylaw6.NearKids", spec := "nearKids", inPlace := ["math/bits.Add64", "math/bits.Sub64"], unfollowed := true, recurses := true, named := ["apiary/cell.digits", "apiary/eisen.units"], apart := false, laid := [("apiary/eisen.units", laid_apiary_eisen_units), ("apiary/cell.digits", laid_apiary_cell_digits)], narrowed := true }
def NearKidsUptoSaid : Prop := nearKidsUptoRow.holds Tryz.pinned (OpenSpec.upto nearKidsSpec)

/-- 'apiarylaw6.NearRings', WHERE WHAT IT READS IS OF BULK AT MOST 1048576: true; the input reads as it did. -/
def nearRingsUptoRow : OpenClaim := { program := "yteipijgkiobmaaagreatdoor", sum := "9354c16ea545fc247fc267b8a236a67b3bd151ac233bb7c26dcfcf452dee2bfc", func := "apiary/apiarylaw6.NearRings", spec := "nearRings", inPlace := ["math/bits.Add64", "math/bits.Sub64"], unfollowed := true, recurses := true, named := ["apiary/cell.digits", "apiary/eisen.units"], apart := false, laid := [("apiary/eisen.units", laid_apiary_eisen_units), ("apiary/cell.digits", laid_apiary_cell_digits)], narrowed := true }
def NearRingsUptoSaid : Prop := nearRingsUptoRow.holds Tryz.pinned (OpenSpec.upto nearRingsSpec)

/-- 'apiarylaw6.NearTells', WHERE WHAT IT READS IS OF BULK AT MOST 1048576: true; the input reads as it did. -/
def nearTellsUptoRow : OpenClaim := { program := "yteipijgkiobmaaagreatdoor", sum := "9354c16ea545fc247fc267b8a236a67b3bd151ac233bb7c26dcfcf452dee2bfc", func := "apiary/apiarylaw6.NearTells", spec := "nearTells", inPlace := ["math/bits.Add64", "math/bits.Sub64"], unfollowed := true, recurses := true, named := ["apiary/cell.digits", "apiary/eisen.units"], apart := false, laid := [("apiary/eisen.units", laid_apiary_eisen_units), ("apiary/cell.digits", laid_apiary_cell_digits)], narrowed := true }
def NearTellsUptoSaid : Prop := nearTellsUptoRow.holds Tryz.pinned (OpenSpec.upto nearTellsSpec)

/-- 'apiarylaw6.NearLines', WHERE WHAT IT READS IS OF BULK AT MOST 1048576: true; the input reads as it did. -/
def nearLinesUptoRow : OpenClaim := { program := "yteipijgkiobmaaagreatdoor", sum := "9354c16ea545fc247fc267b8a236a67b3bd151ac233bb7c26dcfcf452dee2bfc", func := "apiary/apiarylaw6.NearLines", spec := "nearLines", inPlace := ["math/bits.Add64", "math/bits.Sub64"], unfollowed := true, recurses := true, named := ["apiary/cell.digits", "apiary/eisen.units"], apart := false, laid := [("apiary/eisen.units", laid_apiary_eisen_units), ("apiary/cell.digits", laid_apiary_cell_digits)], narrowed := true }
def NearLinesUptoSaid : Prop := nearLinesUptoRow.holds Tryz.pinned (OpenSpec.upto nearLinesSpec)

end Rows
end Go.Proofs.YteipijgkiobmaaaGreatDoor
