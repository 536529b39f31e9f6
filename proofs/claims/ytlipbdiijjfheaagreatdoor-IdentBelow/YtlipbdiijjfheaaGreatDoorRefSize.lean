/-
  What the document's own size of a number tells, for any number of 64 bits but the least, in whatever memory.
-/
import Derived.Test.YtlipbdiijjfheaaGreatDoorProg
import Derived.Test.YtlipbdiijjfheaaGreatDoorPlain
import Derived.Handy
import Derived.WalkSpells
import Derived.WalkLawsBesides
import Derived.Deep.QuietTactic
import Derived.BigQuiet
namespace Go.Proofs.YtlipbdiijjfheaaGreatDoor
open Go.RowKit

set_option maxHeartbeats 400000 in
theorem size_any (n : Int) (n1 : -9223372036854775808 < n) (n2 : n ≤ 9223372036854775807) (w : World) :
    Calls Tryz.prog 125 #[.int .i64 n] w fun e w' => e = .returned (.int .i64 (n.natAbs : Int)) ∧ w' = w := by
  by_cases h : n < 0
  · have e : (n.natAbs : Int) = -n := by omega
    rw [e]
    go_enter Tryz.func125, Tryz.ntmps125
    go_wp2
    go_ret
    exact ⟨rfl, rfl⟩
  · have e : (n.natAbs : Int) = n := by omega
    rw [e]
    go_enter Tryz.func125, Tryz.ntmps125
    go_wp2
    go_ret
    exact ⟨rfl, rfl⟩

end Go.Proofs.YtlipbdiijjfheaaGreatDoor
