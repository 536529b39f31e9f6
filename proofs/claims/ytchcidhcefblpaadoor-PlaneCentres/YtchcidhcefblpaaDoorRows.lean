/-
  NARROWER THAN 'FOR EVERY INPUT', by the rows' own cells (each row's printed sentence says how): PlaneBounds: laid · PlaneCentres: laid.
  DERIVED. THE GIVEN ROWS OF THIS SEAT. 2 by the template 'for every input the law returns true; each argument reads behind the call as it read before'; 0 by the template 'total and deterministic' (their statements: YtchcidhcefblpaaDoorTotals.lean).
  GIVEN WITH THE SEED: the statements are not yours to turn. If you find one false, say at which input.
  Laid BY PROGRAM, IN A SANDBOX (cutbox-rows.mjs): the forced cells as the released guide's own fill.sh prints them over the translation 9cf865696082f736… (all of the seat's roots in one cut). By AI agents, Wed Nov 11 2026. No macro, syntax, notation, axiom, sorry.
-/
import Derived.Test.YtchcidhcefblpaaDoorChecked
import GoSem.Claim
import GoSem.ClaimJoined
import GoSem.ClaimMapViews
import Derived.JoinedTies
import Derived.KernelRfl
namespace Go.Proofs.YtchcidhcefblpaaDoor
/- THE CELL 'sum', in the pinned program and in every row, IS THE sha256 OF THE DUMP (.gsa) THAT YtchcidhcefblpaaDoorProg.lean LOADS. Nothing in Lean hashes anything: it is a label: what it is worth is what the hold of that sum in a sandbox is worth. -/
noncomputable def Tryd.pinned : Pinned := { name := "ytchcidhcefblpaadoor", sum := "9cf865696082f73655335d9696bb93bb33d8af2df9f558a04f7d8cbe829ecadd", checked := Tryd.checked }
namespace Rows
def none {H : Type} : Left H := { results := [], args := [] }

/- WHAT THE LISTED PACKAGE-LEVEL VARIABLES READ AS WHEN THE CALL BEGINS. Each datum BY PROGRAM (the guide's laid-datum.mjs) off the statement by which the dump's own 'gosem.cut.vars' lays the variable. In a bare row this is a premise. The card (YtchcidhcefblpaaDoorCards.lean) ties it to the program's text. -/
def laid_apiary_plane_ways {H : Type} : DataW H := .agg [.agg [.lit (.int .i64 1), .lit (.int .i64 1)], .agg [.lit (.int .i64 (-1)), .lit (.int .i64 2)], .agg [.lit (.int .i64 (-2)), .lit (.int .i64 1)], .agg [.lit (.int .i64 (-1)), .lit (.int .i64 (-1))], .agg [.lit (.int .i64 1), .lit (.int .i64 (-2))], .agg [.lit (.int .i64 2), .lit (.int .i64 (-1))]]

/-- 'apiarylaw3.PlaneBounds': WHATEVER THE INPUT: true; the input reads as it did. -/
def planeBoundsSpec : ChangeSpec := { name := "planeBounds", fn := fun _ => fun
  | [d1, d2] => { results := [.lit (.bool true)], args := [d1, d2] }
  | _ => none }
def planeBoundsRow : OpenClaim := { program := "ytchcidhcefblpaadoor", sum := "9cf865696082f73655335d9696bb93bb33d8af2df9f558a04f7d8cbe829ecadd", func := "apiary/apiarylaw3.PlaneBounds", spec := "planeBounds", inPlace := ["math/bits.Sub64", "math/bits.Add64"], unfollowed := true, recurses := true, named := ["apiary/plane.ways"], apart := false, laid := [("apiary/plane.ways", laid_apiary_plane_ways)] }
def PlaneBoundsSaid : Prop := planeBoundsRow.holds Tryd.pinned (OpenSpec.ofChange planeBoundsSpec)

/-- ITS FALSE NEIGHBOUR: 'it returns false'. Refute it at one input. -/
def planeBoundsWrong : ChangeSpec := { name := "planeBounds", fn := fun _ => fun
  | [d1, d2] => { results := [.lit (.bool false)], args := [d1, d2] }
  | _ => none }
def PlaneBoundsWrongFalsely : Prop := planeBoundsRow.holds Tryd.pinned (OpenSpec.ofChange planeBoundsWrong)

/-- 'apiarylaw3.PlaneCentres': WHATEVER THE INPUT: true; the input reads as it did. -/
def planeCentresSpec : ChangeSpec := { name := "planeCentres", fn := fun _ => fun
  | [d1, d2] => { results := [.lit (.bool true)], args := [d1, d2] }
  | _ => none }
def planeCentresRow : OpenClaim := { program := "ytchcidhcefblpaadoor", sum := "9cf865696082f73655335d9696bb93bb33d8af2df9f558a04f7d8cbe829ecadd", func := "apiary/apiarylaw3.PlaneCentres", spec := "planeCentres", inPlace := ["math/bits.Sub64", "math/bits.Add64"], unfollowed := true, recurses := true, named := ["apiary/plane.ways"], apart := false, laid := [("apiary/plane.ways", laid_apiary_plane_ways)] }
def PlaneCentresSaid : Prop := planeCentresRow.holds Tryd.pinned (OpenSpec.ofChange planeCentresSpec)

/-- ITS FALSE NEIGHBOUR: 'it returns false'. Refute it at one input. -/
def planeCentresWrong : ChangeSpec := { name := "planeCentres", fn := fun _ => fun
  | [d1, d2] => { results := [.lit (.bool false)], args := [d1, d2] }
  | _ => none }
def PlaneCentresWrongFalsely : Prop := planeCentresRow.holds Tryd.pinned (OpenSpec.ofChange planeCentresWrong)

/- THE SECOND FORM. 'bulk': how many values and letters a reading holds, each counted each time it is reached (what is shared counts as often as it is met; a slice's spare places count too). A statement '..UptoSaid' is the law's where the arguments, and the package variables that the reading takes, are together of bulk at most 1048576: NARROWER than '..Said'. Prove '..Said' where nothing that the law and all that it calls make is longer than what came in: it says more and counts as full. Else prove '..UptoSaid'. A law counts once. -/
mutual
def uptoBulk {H : Type} : DataW H → Nat
  | .lit (.string bytes) => bytes.length + 1
  | .lit _ => 1
  | .nil => 1
  | .ptr d => uptoBulk d + 1
  | .slice elems spare => uptoBulkAll elems + uptoBulkAll spare + 1
  | .agg parts => uptoBulkAll parts + 1
  | .iface _ d => uptoBulk d + 1
  | .map entries => uptoBulkEntries entries + 1
  | .held _ => 1
def uptoBulkAll {H : Type} : List (DataW H) → Nat
  | [] => 0
  | d :: r => uptoBulk d + uptoBulkAll r
def uptoBulkEntries {H : Type} : List (Lit × DataW H) → Nat
  | [] => 0
  | x :: r => uptoBulkEntry x + uptoBulkEntries r
def uptoBulkEntry {H : Type} : Lit × DataW H → Nat
  | (.string bytes, d) => bytes.length + uptoBulk d + 1
  | (_, d) => uptoBulk d + 1
 end
def uptoSmall : (H : Type) → List (DataW H) → Bool := fun _ ds => decide (uptoBulkAll ds ≤ 1048576)
def OpenSpec.upto (s : _root_.Go.ChangeSpec) : _root_.Go.OpenSpec := { _root_.Go.OpenSpec.ofChange s with cond := some uptoSmall }

/-- 'apiarylaw3.PlaneBounds', WHERE WHAT IT READS IS OF BULK AT MOST 1048576: true; the input reads as it did. -/
def planeBoundsUptoRow : OpenClaim := { program := "ytchcidhcefblpaadoor", sum := "9cf865696082f73655335d9696bb93bb33d8af2df9f558a04f7d8cbe829ecadd", func := "apiary/apiarylaw3.PlaneBounds", spec := "planeBounds", inPlace := ["math/bits.Sub64", "math/bits.Add64"], unfollowed := true, recurses := true, named := ["apiary/plane.ways"], apart := false, laid := [("apiary/plane.ways", laid_apiary_plane_ways)], narrowed := true }
def PlaneBoundsUptoSaid : Prop := planeBoundsUptoRow.holds Tryd.pinned (OpenSpec.upto planeBoundsSpec)

/-- 'apiarylaw3.PlaneCentres', WHERE WHAT IT READS IS OF BULK AT MOST 1048576: true; the input reads as it did. -/
def planeCentresUptoRow : OpenClaim := { program := "ytchcidhcefblpaadoor", sum := "9cf865696082f73655335d9696bb93bb33d8af2df9f558a04f7d8cbe829ecadd", func := "apiary/apiarylaw3.PlaneCentres", spec := "planeCentres", inPlace := ["math/bits.Sub64", "math/bits.Add64"], unfollowed := true, recurses := true, named := ["apiary/plane.ways"], apart := false, laid := [("apiary/plane.ways", laid_apiary_plane_ways)], narrowed := true }
def PlaneCentresUptoSaid : Prop := planeCentresUptoRow.holds Tryd.pinned (OpenSpec.upto planeCentresSpec)

end Rows
end Go.Proofs.YtchcidhcefblpaaDoor
