/-
  What package ident's Of tells: the word of a cell that may be, no word of another one; in whatever memory where both tables hold what their texts lay.
-/
import Derived.Test.YtogkfmoediiieaaMC
import Derived.RangeFuncFrom
import Derived.RangeFuncCalls
import Derived.RangeFuncLeaves
import Derived.Laws.BitsAllLaws
import Derived.Handy
import Derived.Deep.QuietTactic
import Derived.Test.YtogkfmoediiieaaProg
import Derived.WalkSpells
import Derived.WalkLawsBesides
import Derived.BigQuiet
import Derived.PlainAid
import Derived.Deep.RegionWith
import Derived.Deep.RegionHeld3
import Derived.WalkSmall
import Derived.Deep.CutRange
import Derived.BigRegion
import Derived.WalkKit
import Derived.OwnWalkIn
import Derived.TacticsInMore
import Derived.LoopNIn
import Derived.LoopIn
import Derived.RegionIn
import Derived.Stop.RegionWithIn
namespace Go.Proofs.Ytogkfmoediiieaa
open Go.RowKit Go
attribute [local go_sem] Oper.semAt_some

/-- Seven in each, but for the sizes above k. -/
def fromD (r : Nat) (a b : Int) (k : Nat) (j : Nat) : Int := if r < j + k then dgs r a b j else 7

theorem fromD_box (r : Nat) (a b : Int) (k j : Nat) : 0 ≤ fromD r a b k j ∧ fromD r a b k j ≤ 7 := by
  unfold fromD
  split
  · exact dgs_box r a b j
  · omega

end Go.Proofs.Ytogkfmoediiieaa
