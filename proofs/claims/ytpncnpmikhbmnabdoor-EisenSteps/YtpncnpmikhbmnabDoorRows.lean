/-
  NARROWER THAN 'FOR EVERY INPUT', by the rows' own cells (each row's printed sentence says how): EisenRounds: laid · EisenNear: laid · EisenRing: laid · EisenSteps: laid.
  DERIVED. THE GIVEN ROWS OF THIS SEAT. 4 by the template 'for every input the law returns true; each argument reads behind the call as it read before'; 0 by the template 'total and deterministic' (their statements: YtpncnpmikhbmnabDoorTotals.lean).
  GIVEN WITH THE SEED: the statements are not yours to turn. If you find one false, say at which input.
  Laid BY PROGRAM, IN A SANDBOX (cutbox-rows.mjs): the forced cells as the released guide's own fill.sh prints them over the translation ccced367c358ad5f… (all of the seat's roots in one cut). By AI agents, Wed Nov 11 2026. No macro, syntax, notation, axiom, sorry.
-/
import Derived.Test.YtpncnpmikhbmnabDoorChecked
import GoSem.Claim
import GoSem.ClaimJoined
import GoSem.ClaimMapViews
import Derived.JoinedTies
import Derived.KernelRfl
namespace Go.Proofs.YtpncnpmikhbmnabDoor
/- THE CELL 'sum', in the pinned program and in every row, IS THE sha256 OF THE DUMP (.gsa) THAT YtpncnpmikhbmnabDoorProg.lean LOADS. Nothing in Lean hashes anything: it is a label: what it is worth is what the hold of that sum in a sandbox is worth. -/
noncomputable def Tryd.pinned : Pinned := { name := "ytpncnpmikhbmnabdoor", sum := "ccced367c358ad5f13a8c694edfc24a5f82afea81523cf62b115ef9f38777ba0", checked := Tryd.checked }
namespace Rows
def none {H : Type} : Left H := { results := [], args := [] }

/- WHAT THE LISTED PACKAGE-LEVEL VARIABLES READ AS WHEN THE CALL BEGINS. Each datum BY PROGRAM (the guide's laid-datum.mjs) off the statement by which the dump's own 'gosem.cut.vars' lays the variable. In a bare row this is a premise. The card (YtpncnpmikhbmnabDoorCards.lean) ties it to the program's text. -/
def laid_apiary_eisen_units {H : Type} : DataW H := .agg [.agg [.lit (.int .i64 1), .lit (.int .i64 0)], .agg [.lit (.int .i64 0), .lit (.int .i64 1)], .agg [.lit (.int .i64 (-1)), .lit (.int .i64 1)], .agg [.lit (.int .i64 (-1)), .lit (.int .i64 0)], .agg [.lit (.int .i64 0), .lit (.int .i64 (-1))], .agg [.lit (.int .i64 1), .lit (.int .i64 (-1))]]

/-- 'apiarylaw2.EisenRounds': WHATEVER THE INPUT: true; the input reads as it did. -/
def eisenRoundsSpec : ChangeSpec := { name := "eisenRounds", fn := fun _ => fun
  | [d1, d2] => { results := [.lit (.bool true)], args := [d1, d2] }
  | _ => none }
def eisenRoundsRow : OpenClaim := { program := "ytpncnpmikhbmnabdoor", sum := "ccced367c358ad5f13a8c694edfc24a5f82afea81523cf62b115ef9f38777ba0", func := "apiary/apiarylaw2.EisenRounds", spec := "eisenRounds", inPlace := ["math/bits.Sub64", "math/bits.Add64"], unfollowed := true, recurses := true, named := ["apiary/eisen.units"], apart := false, laid := [("apiary/eisen.units", laid_apiary_eisen_units)] }
def EisenRoundsSaid : Prop := eisenRoundsRow.holds Tryd.pinned (OpenSpec.ofChange eisenRoundsSpec)

/-- ITS FALSE NEIGHBOUR: 'it returns false'. Refute it at one input. -/
def eisenRoundsWrong : ChangeSpec := { name := "eisenRounds", fn := fun _ => fun
  | [d1, d2] => { results := [.lit (.bool false)], args := [d1, d2] }
  | _ => none }
def EisenRoundsWrongFalsely : Prop := eisenRoundsRow.holds Tryd.pinned (OpenSpec.ofChange eisenRoundsWrong)

/-- 'apiarylaw2.EisenNear': WHATEVER THE INPUT: true; the input reads as it did. -/
def eisenNearSpec : ChangeSpec := { name := "eisenNear", fn := fun _ => fun
  | [d1, d2, d3] => { results := [.lit (.bool true)], args := [d1, d2, d3] }
  | _ => none }
def eisenNearRow : OpenClaim := { program := "ytpncnpmikhbmnabdoor", sum := "ccced367c358ad5f13a8c694edfc24a5f82afea81523cf62b115ef9f38777ba0", func := "apiary/apiarylaw2.EisenNear", spec := "eisenNear", inPlace := ["math/bits.Sub64", "math/bits.Add64"], unfollowed := true, recurses := true, named := ["apiary/eisen.units"], apart := false, laid := [("apiary/eisen.units", laid_apiary_eisen_units)] }
def EisenNearSaid : Prop := eisenNearRow.holds Tryd.pinned (OpenSpec.ofChange eisenNearSpec)

/-- ITS FALSE NEIGHBOUR: 'it returns false'. Refute it at one input. -/
def eisenNearWrong : ChangeSpec := { name := "eisenNear", fn := fun _ => fun
  | [d1, d2, d3] => { results := [.lit (.bool false)], args := [d1, d2, d3] }
  | _ => none }
def EisenNearWrongFalsely : Prop := eisenNearRow.holds Tryd.pinned (OpenSpec.ofChange eisenNearWrong)

/-- 'apiarylaw2.EisenRing': WHATEVER THE INPUT: true; the input reads as it did. -/
def eisenRingSpec : ChangeSpec := { name := "eisenRing", fn := fun _ => fun
  | [d1, d2, d3] => { results := [.lit (.bool true)], args := [d1, d2, d3] }
  | _ => none }
def eisenRingRow : OpenClaim := { program := "ytpncnpmikhbmnabdoor", sum := "ccced367c358ad5f13a8c694edfc24a5f82afea81523cf62b115ef9f38777ba0", func := "apiary/apiarylaw2.EisenRing", spec := "eisenRing", inPlace := ["math/bits.Sub64", "math/bits.Add64"], unfollowed := true, recurses := true, named := ["apiary/eisen.units"], apart := false, laid := [("apiary/eisen.units", laid_apiary_eisen_units)] }
def EisenRingSaid : Prop := eisenRingRow.holds Tryd.pinned (OpenSpec.ofChange eisenRingSpec)

/-- ITS FALSE NEIGHBOUR: 'it returns false'. Refute it at one input. -/
def eisenRingWrong : ChangeSpec := { name := "eisenRing", fn := fun _ => fun
  | [d1, d2, d3] => { results := [.lit (.bool false)], args := [d1, d2, d3] }
  | _ => none }
def EisenRingWrongFalsely : Prop := eisenRingRow.holds Tryd.pinned (OpenSpec.ofChange eisenRingWrong)

/-- 'apiarylaw2.EisenSteps': WHATEVER THE INPUT: true; the input reads as it did. -/
def eisenStepsSpec : ChangeSpec := { name := "eisenSteps", fn := fun _ => fun
  | [d1, d2, d3] => { results := [.lit (.bool true)], args := [d1, d2, d3] }
  | _ => none }
def eisenStepsRow : OpenClaim := { program := "ytpncnpmikhbmnabdoor", sum := "ccced367c358ad5f13a8c694edfc24a5f82afea81523cf62b115ef9f38777ba0", func := "apiary/apiarylaw2.EisenSteps", spec := "eisenSteps", inPlace := ["math/bits.Sub64", "math/bits.Add64"], unfollowed := true, recurses := true, named := ["apiary/eisen.units"], apart := false, laid := [("apiary/eisen.units", laid_apiary_eisen_units)] }
def EisenStepsSaid : Prop := eisenStepsRow.holds Tryd.pinned (OpenSpec.ofChange eisenStepsSpec)

/-- ITS FALSE NEIGHBOUR: 'it returns false'. Refute it at one input. -/
def eisenStepsWrong : ChangeSpec := { name := "eisenSteps", fn := fun _ => fun
  | [d1, d2, d3] => { results := [.lit (.bool false)], args := [d1, d2, d3] }
  | _ => none }
def EisenStepsWrongFalsely : Prop := eisenStepsRow.holds Tryd.pinned (OpenSpec.ofChange eisenStepsWrong)

/- THE SECOND FORM. 'bulk': how many values and letters a reading holds, each counted each time it is reached (what is shared counts as often as it is met; a slice's spare places count too). A statement '..UptoSaid' is the law's where the arguments, and the package variables that the reading takes, are together of bulk at most 1048576: NARROWER than '..Said'. Prove '..Said' where nothing that the law and all that it calls make is longer than what came in: it says more and counts as full. Else prove '..UptoSaid'. A law counts once. -/
mutual
def uptoBulk {H : Type} : DataW H → Nat
  | .lit (.string bytes) => bytes.length + 1
  | .lit _ => 1
  | .nil => 1
  | .ptr d => uptoBulk d + 1
  | .slice elems spare => uptoBulkAll elems + uptoBulkAll spare + 1
  | .agg parts => uptoBulkAll parts + 1
  | .iface _ d => uptoBulk d + 1
  | .map entries => uptoBulkEntries entries + 1
  | .held _ => 1
def uptoBulkAll {H : Type} : List (DataW H) → Nat
  | [] => 0
  | d :: r => uptoBulk d + uptoBulkAll r
def uptoBulkEntries {H : Type} : List (Lit × DataW H) → Nat
  | [] => 0
  | x :: r => uptoBulkEntry x + uptoBulkEntries r
def uptoBulkEntry {H : Type} : Lit × DataW H → Nat
  | (.string bytes, d) => bytes.length + uptoBulk d + 1
  | (_, d) => uptoBulk d + 1
 end
def uptoSmall : (H : Type) → List (DataW H) → Bool := fun _ ds => decide (uptoBulkAll ds ≤ 1048576)
def OpenSpec.upto (s : _root_.Go.ChangeSpec) : _root_.Go.OpenSpec := { _root_.Go.OpenSpec.ofChange s with cond := some uptoSmall }

/-- 'apiarylaw2.EisenRounds', WHERE WHAT IT READS IS OF BULK AT MOST 1048576: true; the input reads as it did. -/
def eisenRoundsUptoRow : OpenClaim := { program := "ytpncnpmikhbmnabdoor", sum := "ccced367c358ad5f13a8c694edfc24a5f82afea81523cf62b115ef9f38777ba0", func := "apiary/apiarylaw2.EisenRounds", spec := "eisenRounds", inPlace := ["math/bits.Sub64", "math/bits.Add64"], unfollowed := true, recurses := true, named := ["apiary/eisen.units"], apart := false, laid := [("apiary/eisen.units", laid_apiary_eisen_units)], narrowed := true }
def EisenRoundsUptoSaid : Prop := eisenRoundsUptoRow.holds Tryd.pinned (OpenSpec.upto eisenRoundsSpec)

/-- 'apiarylaw2.EisenNear', WHERE WHAT IT READS IS OF BULK AT MOST 1048576: true; the input reads as it did. -/
def eisenNearUptoRow : OpenClaim := { program := "ytpncnpmikhbmnabdoor", sum := "ccced367c358ad5f13a8c694edfc24a5f82afea81523cf62b115ef9f38777ba0", func := "apiary/apiarylaw2.EisenNear", spec := "eisenNear", inPlace := ["math/bits.Sub64", "math/bits.Add64"], unfollowed := true, recurses := true, named := ["apiary/eisen.units"], apart := false, laid := [("apiary/eisen.units", laid_apiary_eisen_units)], narrowed := true }
def EisenNearUptoSaid : Prop := eisenNearUptoRow.holds Tryd.pinned (OpenSpec.upto eisenNearSpec)

/-- 'apiarylaw2.EisenRing', WHERE WHAT IT READS IS OF BULK AT MOST 1048576: true; the input reads as it did. -/
def eisenRingUptoRow : OpenClaim := { program := "ytpncnpmikhbmnabdoor", sum := "ccced367c358ad5f13a8c694edfc24a5f82afea81523cf62b115ef9f38777ba0", func := "apiary/apiarylaw2.EisenRing", spec := "eisenRing", inPlace := ["math/bits.Sub64", "math/bits.Add64"], unfollowed := true, recurses := true, named := ["apiary/eisen.units"], apart := false, laid := [("apiary/eisen.units", laid_apiary_eisen_units)], narrowed := true }
def EisenRingUptoSaid : Prop := eisenRingUptoRow.holds Tryd.pinned (OpenSpec.upto eisenRingSpec)

/-- 'apiarylaw2.EisenSteps', WHERE WHAT IT READS IS OF BULK AT MOST 1048576: true; the input reads as it did. -/
def eisenStepsUptoRow : OpenClaim := { program := "ytpncnpmikhbmnabdoor", sum := "ccced367c358ad5f13a8c694edfc24a5f82afea81523cf62b115ef9f38777ba0", func := "apiary/apiarylaw2.EisenSteps", spec := "eisenSteps", inPlace := ["math/bits.Sub64", "math/bits.Add64"], unfollowed := true, recurses := true, named := ["apiary/eisen.units"], apart := false, laid := [("apiary/eisen.units", laid_apiary_eisen_units)], narrowed := true }
def EisenStepsUptoSaid : Prop := eisenStepsUptoRow.holds Tryd.pinned (OpenSpec.upto eisenStepsSpec)

end Rows
end Go.Proofs.YtpncnpmikhbmnabDoor
