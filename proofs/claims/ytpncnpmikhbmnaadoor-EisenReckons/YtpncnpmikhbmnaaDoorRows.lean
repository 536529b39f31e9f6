/-
  NARROWER THAN 'FOR EVERY INPUT', by the rows' own cells (each row's printed sentence says how): EisenTurn: laid · EisenMoved: laid · EisenBounds: laid · EisenWhole: laid · EisenReckons: laid · EisenUnits: laid.
  DERIVED. THE GIVEN ROWS OF THIS SEAT. 6 by the template 'for every input the law returns true; each argument reads behind the call as it read before'; 0 by the template 'total and deterministic' (their statements: YtpncnpmikhbmnaaDoorTotals.lean).
  GIVEN WITH THE SEED: the statements are not yours to turn. If you find one false, say at which input.
  Laid BY PROGRAM, IN A SANDBOX (cutbox-rows.mjs): the forced cells as the released guide's own fill.sh prints them over the translation 7654170b443f664a… (all of the seat's roots in one cut). By AI agents, Wed Nov 11 2026. No macro, syntax, notation, axiom, sorry.
-/
import Derived.Test.YtpncnpmikhbmnaaDoorChecked
import GoSem.Claim
import GoSem.ClaimJoined
import GoSem.ClaimMapViews
import Derived.JoinedTies
import Derived.KernelRfl
namespace Go.Proofs.YtpncnpmikhbmnaaDoor
/- THE CELL 'sum', in the pinned program and in every row, IS THE sha256 OF THE DUMP (.gsa) THAT YtpncnpmikhbmnaaDoorProg.lean LOADS. Nothing in Lean hashes anything: it is a label: what it is worth is what the hold of that sum in a sandbox is worth. -/
noncomputable def Tryd.pinned : Pinned := { name := "ytpncnpmikhbmnaadoor", sum := "7654170b443f664a33462a9e4bf12c8caafc45b31da13996a0a96c16666506b1", checked := Tryd.checked }
namespace Rows
def none {H : Type} : Left H := { results := [], args := [] }

/- WHAT THE LISTED PACKAGE-LEVEL VARIABLES READ AS WHEN THE CALL BEGINS. Each datum BY PROGRAM (the guide's laid-datum.mjs) off the statement by which the dump's own 'gosem.cut.vars' lays the variable. In a bare row this is a premise. The card (YtpncnpmikhbmnaaDoorCards.lean) ties it to the program's text. -/
def laid_apiary_eisen_units {H : Type} : DataW H := .agg [.agg [.lit (.int .i64 1), .lit (.int .i64 0)], .agg [.lit (.int .i64 0), .lit (.int .i64 1)], .agg [.lit (.int .i64 (-1)), .lit (.int .i64 1)], .agg [.lit (.int .i64 (-1)), .lit (.int .i64 0)], .agg [.lit (.int .i64 0), .lit (.int .i64 (-1))], .agg [.lit (.int .i64 1), .lit (.int .i64 (-1))]]

/-- 'apiarylaw2.EisenTurn': WHATEVER THE INPUT: true; the input reads as it did. -/
def eisenTurnSpec : ChangeSpec := { name := "eisenTurn", fn := fun _ => fun
  | [d1, d2] => { results := [.lit (.bool true)], args := [d1, d2] }
  | _ => none }
def eisenTurnRow : OpenClaim := { program := "ytpncnpmikhbmnaadoor", sum := "7654170b443f664a33462a9e4bf12c8caafc45b31da13996a0a96c16666506b1", func := "apiary/apiarylaw2.EisenTurn", spec := "eisenTurn", inPlace := ["math/bits.Sub64", "math/bits.Add64"], unfollowed := true, recurses := true, named := ["apiary/eisen.units"], apart := false, laid := [("apiary/eisen.units", laid_apiary_eisen_units)] }
def EisenTurnSaid : Prop := eisenTurnRow.holds Tryd.pinned (OpenSpec.ofChange eisenTurnSpec)

/-- ITS FALSE NEIGHBOUR: 'it returns false'. Refute it at one input. -/
def eisenTurnWrong : ChangeSpec := { name := "eisenTurn", fn := fun _ => fun
  | [d1, d2] => { results := [.lit (.bool false)], args := [d1, d2] }
  | _ => none }
def EisenTurnWrongFalsely : Prop := eisenTurnRow.holds Tryd.pinned (OpenSpec.ofChange eisenTurnWrong)

/-- 'apiarylaw2.EisenMoved': WHATEVER THE INPUT: true; the input reads as it did. -/
def eisenMovedSpec : ChangeSpec := { name := "eisenMoved", fn := fun _ => fun
  | [d1, d2, d3] => { results := [.lit (.bool true)], args := [d1, d2, d3] }
  | _ => none }
def eisenMovedRow : OpenClaim := { program := "ytpncnpmikhbmnaadoor", sum := "7654170b443f664a33462a9e4bf12c8caafc45b31da13996a0a96c16666506b1", func := "apiary/apiarylaw2.EisenMoved", spec := "eisenMoved", inPlace := ["math/bits.Sub64", "math/bits.Add64"], unfollowed := true, recurses := true, named := ["apiary/eisen.units"], apart := false, laid := [("apiary/eisen.units", laid_apiary_eisen_units)] }
def EisenMovedSaid : Prop := eisenMovedRow.holds Tryd.pinned (OpenSpec.ofChange eisenMovedSpec)

/-- ITS FALSE NEIGHBOUR: 'it returns false'. Refute it at one input. -/
def eisenMovedWrong : ChangeSpec := { name := "eisenMoved", fn := fun _ => fun
  | [d1, d2, d3] => { results := [.lit (.bool false)], args := [d1, d2, d3] }
  | _ => none }
def EisenMovedWrongFalsely : Prop := eisenMovedRow.holds Tryd.pinned (OpenSpec.ofChange eisenMovedWrong)

/-- 'apiarylaw2.EisenBounds': WHATEVER THE INPUT: true; the input reads as it did. -/
def eisenBoundsSpec : ChangeSpec := { name := "eisenBounds", fn := fun _ => fun
  | [d1, d2] => { results := [.lit (.bool true)], args := [d1, d2] }
  | _ => none }
def eisenBoundsRow : OpenClaim := { program := "ytpncnpmikhbmnaadoor", sum := "7654170b443f664a33462a9e4bf12c8caafc45b31da13996a0a96c16666506b1", func := "apiary/apiarylaw2.EisenBounds", spec := "eisenBounds", inPlace := ["math/bits.Add64", "math/bits.Sub64"], unfollowed := true, recurses := true, named := ["apiary/eisen.units"], apart := false, laid := [("apiary/eisen.units", laid_apiary_eisen_units)] }
def EisenBoundsSaid : Prop := eisenBoundsRow.holds Tryd.pinned (OpenSpec.ofChange eisenBoundsSpec)

/-- ITS FALSE NEIGHBOUR: 'it returns false'. Refute it at one input. -/
def eisenBoundsWrong : ChangeSpec := { name := "eisenBounds", fn := fun _ => fun
  | [d1, d2] => { results := [.lit (.bool false)], args := [d1, d2] }
  | _ => none }
def EisenBoundsWrongFalsely : Prop := eisenBoundsRow.holds Tryd.pinned (OpenSpec.ofChange eisenBoundsWrong)

/-- 'apiarylaw2.EisenWhole': WHATEVER THE INPUT: true; the input reads as it did. -/
def eisenWholeSpec : ChangeSpec := { name := "eisenWhole", fn := fun _ => fun
  | [d1, d2, d3] => { results := [.lit (.bool true)], args := [d1, d2, d3] }
  | _ => none }
def eisenWholeRow : OpenClaim := { program := "ytpncnpmikhbmnaadoor", sum := "7654170b443f664a33462a9e4bf12c8caafc45b31da13996a0a96c16666506b1", func := "apiary/apiarylaw2.EisenWhole", spec := "eisenWhole", inPlace := ["math/bits.Add64", "math/bits.Sub64"], unfollowed := true, recurses := true, named := ["apiary/eisen.units"], apart := false, laid := [("apiary/eisen.units", laid_apiary_eisen_units)] }
def EisenWholeSaid : Prop := eisenWholeRow.holds Tryd.pinned (OpenSpec.ofChange eisenWholeSpec)

/-- ITS FALSE NEIGHBOUR: 'it returns false'. Refute it at one input. -/
def eisenWholeWrong : ChangeSpec := { name := "eisenWhole", fn := fun _ => fun
  | [d1, d2, d3] => { results := [.lit (.bool false)], args := [d1, d2, d3] }
  | _ => none }
def EisenWholeWrongFalsely : Prop := eisenWholeRow.holds Tryd.pinned (OpenSpec.ofChange eisenWholeWrong)

/-- 'apiarylaw2.EisenReckons': WHATEVER THE INPUT: true; the input reads as it did. -/
def eisenReckonsSpec : ChangeSpec := { name := "eisenReckons", fn := fun _ => fun
  | [d1, d2] => { results := [.lit (.bool true)], args := [d1, d2] }
  | _ => none }
def eisenReckonsRow : OpenClaim := { program := "ytpncnpmikhbmnaadoor", sum := "7654170b443f664a33462a9e4bf12c8caafc45b31da13996a0a96c16666506b1", func := "apiary/apiarylaw2.EisenReckons", spec := "eisenReckons", inPlace := ["math/bits.Add64", "math/bits.Sub64"], unfollowed := true, recurses := true, named := ["apiary/eisen.units"], apart := false, laid := [("apiary/eisen.units", laid_apiary_eisen_units)] }
def EisenReckonsSaid : Prop := eisenReckonsRow.holds Tryd.pinned (OpenSpec.ofChange eisenReckonsSpec)

/-- ITS FALSE NEIGHBOUR: 'it returns false'. Refute it at one input. -/
def eisenReckonsWrong : ChangeSpec := { name := "eisenReckons", fn := fun _ => fun
  | [d1, d2] => { results := [.lit (.bool false)], args := [d1, d2] }
  | _ => none }
def EisenReckonsWrongFalsely : Prop := eisenReckonsRow.holds Tryd.pinned (OpenSpec.ofChange eisenReckonsWrong)

/-- 'apiarylaw2.EisenUnits': WHATEVER THE INPUT: true; the input reads as it did. -/
def eisenUnitsSpec : ChangeSpec := { name := "eisenUnits", fn := fun _ => fun
  | [d] => { results := [.lit (.bool true)], args := [d] }
  | _ => none }
def eisenUnitsRow : OpenClaim := { program := "ytpncnpmikhbmnaadoor", sum := "7654170b443f664a33462a9e4bf12c8caafc45b31da13996a0a96c16666506b1", func := "apiary/apiarylaw2.EisenUnits", spec := "eisenUnits", inPlace := ["math/bits.Sub64", "math/bits.Add64"], named := ["apiary/eisen.units"], apart := false, laid := [("apiary/eisen.units", laid_apiary_eisen_units)] }
def EisenUnitsSaid : Prop := eisenUnitsRow.holds Tryd.pinned (OpenSpec.ofChange eisenUnitsSpec)

/-- ITS FALSE NEIGHBOUR: 'it returns false'. Refute it at one input. -/
def eisenUnitsWrong : ChangeSpec := { name := "eisenUnits", fn := fun _ => fun
  | [d] => { results := [.lit (.bool false)], args := [d] }
  | _ => none }
def EisenUnitsWrongFalsely : Prop := eisenUnitsRow.holds Tryd.pinned (OpenSpec.ofChange eisenUnitsWrong)

/- THE SECOND FORM. 'bulk': how many values and letters a reading holds, each counted each time it is reached (what is shared counts as often as it is met; a slice's spare places count too). A statement '..UptoSaid' is the law's where the arguments, and the package variables that the reading takes, are together of bulk at most 1048576: NARROWER than '..Said'. Prove '..Said' where nothing that the law and all that it calls make is longer than what came in: it says more and counts as full. Else prove '..UptoSaid'. A law counts once. -/
mutual
def uptoBulk {H : Type} : DataW H → Nat
  | .lit (.string bytes) => bytes.length + 1
  | .lit _ => 1
  | .nil => 1
  | .ptr d => uptoBulk d + 1
  | .slice elems spare => uptoBulkAll elems + uptoBulkAll spare + 1
  | .agg parts => uptoBulkAll parts + 1
  | .iface _ d => uptoBulk d + 1
  | .map entries => uptoBulkEntries entries + 1
  | .held _ => 1
def uptoBulkAll {H : Type} : List (DataW H) → Nat
  | [] => 0
  | d :: r => uptoBulk d + uptoBulkAll r
def uptoBulkEntries {H : Type} : List (Lit × DataW H) → Nat
  | [] => 0
  | x :: r => uptoBulkEntry x + uptoBulkEntries r
def uptoBulkEntry {H : Type} : Lit × DataW H → Nat
  | (.string bytes, d) => bytes.length + uptoBulk d + 1
  | (_, d) => uptoBulk d + 1
 end
def uptoSmall : (H : Type) → List (DataW H) → Bool := fun _ ds => decide (uptoBulkAll ds ≤ 1048576)
def OpenSpec.upto (s : _root_.Go.ChangeSpec) : _root_.Go.OpenSpec := { _root_.Go.OpenSpec.ofChange s with cond := some uptoSmall }

/-- 'apiarylaw2.EisenTurn', WHERE WHAT IT READS IS OF BULK AT MOST 1048576: true; the input reads as it did. -/
def eisenTurnUptoRow : OpenClaim := { program := "ytpncnpmikhbmnaadoor", sum := "7654170b443f664a33462a9e4bf12c8caafc45b31da13996a0a96c16666506b1", func := "apiary/apiarylaw2.EisenTurn", spec := "eisenTurn", inPlace := ["math/bits.Sub64", "math/bits.Add64"], unfollowed := true, recurses := true, named := ["apiary/eisen.units"], apart := false, laid := [("apiary/eisen.units", laid_apiary_eisen_units)], narrowed := true }
def EisenTurnUptoSaid : Prop := eisenTurnUptoRow.holds Tryd.pinned (OpenSpec.upto eisenTurnSpec)

/-- 'apiarylaw2.EisenMoved', WHERE WHAT IT READS IS OF BULK AT MOST 1048576: true; the input reads as it did. -/
def eisenMovedUptoRow : OpenClaim := { program := "ytpncnpmikhbmnaadoor", sum := "7654170b443f664a33462a9e4bf12c8caafc45b31da13996a0a96c16666506b1", func := "apiary/apiarylaw2.EisenMoved", spec := "eisenMoved", inPlace := ["math/bits.Sub64", "math/bits.Add64"], unfollowed := true, recurses := true, named := ["apiary/eisen.units"], apart := false, laid := [("apiary/eisen.units", laid_apiary_eisen_units)], narrowed := true }
def EisenMovedUptoSaid : Prop := eisenMovedUptoRow.holds Tryd.pinned (OpenSpec.upto eisenMovedSpec)

/-- 'apiarylaw2.EisenBounds', WHERE WHAT IT READS IS OF BULK AT MOST 1048576: true; the input reads as it did. -/
def eisenBoundsUptoRow : OpenClaim := { program := "ytpncnpmikhbmnaadoor", sum := "7654170b443f664a33462a9e4bf12c8caafc45b31da13996a0a96c16666506b1", func := "apiary/apiarylaw2.EisenBounds", spec := "eisenBounds", inPlace := ["math/bits.Add64", "math/bits.Sub64"], unfollowed := true, recurses := true, named := ["apiary/eisen.units"], apart := false, laid := [("apiary/eisen.units", laid_apiary_eisen_units)], narrowed := true }
def EisenBoundsUptoSaid : Prop := eisenBoundsUptoRow.holds Tryd.pinned (OpenSpec.upto eisenBoundsSpec)

/-- 'apiarylaw2.EisenWhole', WHERE WHAT IT READS IS OF BULK AT MOST 1048576: true; the input reads as it did. -/
def eisenWholeUptoRow : OpenClaim := { program := "ytpncnpmikhbmnaadoor", sum := "7654170b443f664a33462a9e4bf12c8caafc45b31da13996a0a96c16666506b1", func := "apiary/apiarylaw2.EisenWhole", spec := "eisenWhole", inPlace := ["math/bits.Add64", "math/bits.Sub64"], unfollowed := true, recurses := true, named := ["apiary/eisen.units"], apart := false, laid := [("apiary/eisen.units", laid_apiary_eisen_units)], narrowed := true }
def EisenWholeUptoSaid : Prop := eisenWholeUptoRow.holds Tryd.pinned (OpenSpec.upto eisenWholeSpec)

/-- 'apiarylaw2.EisenReckons', WHERE WHAT IT READS IS OF BULK AT MOST 1048576: true; the input reads as it did. -/
def eisenReckonsUptoRow : OpenClaim := { program := "ytpncnpmikhbmnaadoor", sum := "7654170b443f664a33462a9e4bf12c8caafc45b31da13996a0a96c16666506b1", func := "apiary/apiarylaw2.EisenReckons", spec := "eisenReckons", inPlace := ["math/bits.Add64", "math/bits.Sub64"], unfollowed := true, recurses := true, named := ["apiary/eisen.units"], apart := false, laid := [("apiary/eisen.units", laid_apiary_eisen_units)], narrowed := true }
def EisenReckonsUptoSaid : Prop := eisenReckonsUptoRow.holds Tryd.pinned (OpenSpec.upto eisenReckonsSpec)

/-- 'apiarylaw2.EisenUnits', WHERE WHAT IT READS IS OF BULK AT MOST 1048576: true; the input reads as it did. -/
def eisenUnitsUptoRow : OpenClaim := { program := "ytpncnpmikhbmnaadoor", sum := "7654170b443f664a33462a9e4bf12c8caafc45b31da13996a0a96c16666506b1", func := "apiary/apiarylaw2.EisenUnits", spec := "eisenUnits", inPlace := ["math/bits.Sub64", "math/bits.Add64"], named := ["apiary/eisen.units"], apart := false, laid := [("apiary/eisen.units", laid_apiary_eisen_units)], narrowed := true }
def EisenUnitsUptoSaid : Prop := eisenUnitsUptoRow.holds Tryd.pinned (OpenSpec.upto eisenUnitsSpec)

end Rows
end Go.Proofs.YtpncnpmikhbmnaaDoor
