/-
  A point of the world, and a size, made of any numbers, in whatever memory.
-/
import Derived.Test.YtchcidhcefblpaaDoorPlaneMath
import Derived.Test.YtchcidhcefblpaaDoorMask
import Derived.Test.YtchcidhcefblpaaDoorESmall
namespace Go.Proofs.YtchcidhcefblpaaDoor
open Go.RowKit

/-- A size made of a number. -/
theorem size13 (r : Int) : ∃ t s : Int, ∃ K : Nat, r.tmod 13 = t ∧ (t + 13).tmod 13 = s ∧ -13 < t ∧ t < 13 ∧ K ≤ 12 ∧ 12 - s = (K : Int) := by
  have h := tmod_box r 13 (by omega)
  refine ⟨_, _, (12 - (r.tmod 13 + 13).tmod 13).toNat, rfl, rfl, h.1, h.2, ?_, ?_⟩
  all_goals
    generalize r.tmod 13 = t at *
    rw [Int.tmod_eq_emod_of_nonneg (by omega)]
    omega
end Go.Proofs.YtchcidhcefblpaaDoor
