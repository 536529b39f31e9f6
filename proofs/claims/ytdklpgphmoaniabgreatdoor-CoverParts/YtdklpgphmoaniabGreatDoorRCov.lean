/-
  What the document's own BoxMay and Centres tell; in whatever memory.
-/
import Derived.Test.YtdklpgphmoaniabGreatDoorMX
import Derived.Test.YtdklpgphmoaniabGreatDoorProg
import Derived.Handy
import Derived.Deep.QuietTactic
import Derived.WalkSpells
import Derived.WalkLawsBesides
import Derived.BigQuiet
import Derived.PlainAid
import Derived.Deep.RegionWith
import Derived.Laws.BitsAllLaws
import Derived.Deep.RegionHeld3
import Derived.WalkSmall
import Derived.WalkKit
import Derived.OwnWalk
import Derived.Laws.OwnMore
import Derived.Deep.CutRange
import Derived.BigRegion
import Derived.OneCell
import Derived.Laws.CopyOwn
import Derived.Sort.Row
import Derived.Deep.LoopGhost
import Derived.RangeFuncFrom
import Derived.RangeFuncCalls
import Derived.RangeFuncLeaves
import Derived.OwnWalkIn
import Derived.TacticsInMore
import Derived.LoopNIn
import Derived.LoopIn
import Derived.RegionIn
import Derived.Stop.RegionWithIn
import Derived.Sort.LotD3
import Derived.Deep.Cut
import Derived.Sort.WalkA6
import Derived.Sort.Walk13a
import Derived.Sort.LotA
import Derived.Sort.LotB
import Derived.Sort.LotD1
import Derived.Deep.Draws
import Derived.BigGuard
import Derived.BigCall
import Derived.CellFam
import Derived.Sort.WalkB3
namespace Go.Proofs.YtdklpgphmoaniabGreatDoor
open Go.RowKit

/-- The error of a box: t. -/
def MayT (l1 l2 u1 u2 r t : Int) : Prop :=
  ((r < 0 ∨ 12 < r) ∧ t = 1) ∨ ((0 ≤ r ∧ r ≤ 12) ∧ ¬ (InW l1 l2 ∧ InW u1 u2) ∧ t = 4) ∨ ((0 ≤ r ∧ r ≤ 12) ∧ (InW l1 l2 ∧ InW u1 u2) ∧ (u1 < l1 ∨ u2 < l2) ∧ t = 1) ∨ ((0 ≤ r ∧ r ≤ 12) ∧ (InW l1 l2 ∧ InW u1 u2) ∧ (l1 ≤ u1 ∧ l2 ≤ u2) ∧ t = 0)

/-- Whether a word's cell's centre lies in a box. -/
def inCB (K : Nat) (l1 l2 u1 u2 x : Int) : Bool := decide (l1 ≤ poX K (cellA x) (cellB x) ∧ poX K (cellA x) (cellB x) ≤ u1 ∧ l2 ≤ poY K (cellA x) (cellB x) ∧ poY K (cellA x) (cellB x) ≤ u2)

theorem inCB_ways (X Y l1 l2 u1 u2 : Int) : (decide (l1 ≤ X) = false ∧ ¬ (l1 ≤ X ∧ X ≤ u1 ∧ l2 ≤ Y ∧ Y ≤ u2)) ∨ (l1 ≤ X ∧ decide (X ≤ u1) = false ∧ ¬ (l1 ≤ X ∧ X ≤ u1 ∧ l2 ≤ Y ∧ Y ≤ u2)) ∨ (l1 ≤ X ∧ X ≤ u1 ∧ decide (l2 ≤ Y) = false ∧ ¬ (l1 ≤ X ∧ X ≤ u1 ∧ l2 ≤ Y ∧ Y ≤ u2)) ∨ (l1 ≤ X ∧ X ≤ u1 ∧ l2 ≤ Y ∧ decide (Y ≤ u2) = false ∧ ¬ (l1 ≤ X ∧ X ≤ u1 ∧ l2 ≤ Y ∧ Y ≤ u2)) ∨ (l1 ≤ X ∧ X ≤ u1 ∧ l2 ≤ Y ∧ Y ≤ u2) := by
  simp only [decide_eq_false_iff_not]
  omega

end Go.Proofs.YtdklpgphmoaniabGreatDoor
