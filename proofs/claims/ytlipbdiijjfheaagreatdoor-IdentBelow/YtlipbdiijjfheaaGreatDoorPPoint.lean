/-
  A point of the world, and a size, made of any numbers, in whatever memory.
-/
import Derived.Test.YtlipbdiijjfheaaGreatDoorPlaneMath
import Derived.Test.YtlipbdiijjfheaaGreatDoorMask
import Derived.Test.YtlipbdiijjfheaaGreatDoorESmall
namespace Go.Proofs.YtlipbdiijjfheaaGreatDoor
open Go.RowKit

/-- A size made of a number. -/
theorem size13 (r : Int) : ∃ t s : Int, ∃ K : Nat, r.tmod 13 = t ∧ (t + 13).tmod 13 = s ∧ -13 < t ∧ t < 13 ∧ K ≤ 12 ∧ 12 - s = (K : Int) := by
  have h := tmod_box r 13 (by omega)
  refine ⟨_, _, (12 - (r.tmod 13 + 13).tmod 13).toNat, rfl, rfl, h.1, h.2, ?_, ?_⟩
  all_goals
    generalize r.tmod 13 = t at *
    rw [Int.tmod_eq_emod_of_nonneg (by omega)]
    omega
set_option maxHeartbeats 400000 in
theorem point_core (x0 y0 x y : Int) (hx : bits .and .i64 x0 1073741823 = x) (hy : bits .and .i64 y0 1073741823 = y) (w : World) :
    Calls Tryz.prog 45 #[.int .i64 x0, .int .i64 y0] w fun e w' => e = .returned (.tuple #[.int .i64 x, .int .i64 y]) ∧ Below w.heap.size w w' := by
  go_enter Tryz.func45, Tryz.ntmps45
  go_wp2
  go_ret2
  exact ⟨rfl, by go_grown⟩
theorem point_any (x0 y0 : Int) : ∃ x y : Int, InW x y ∧ ∀ w, Calls Tryz.prog 45 #[.int .i64 x0, .int .i64 y0] w fun e w' => e = .returned (.tuple #[.int .i64 x, .int .i64 y]) ∧ Below w.heap.size w w' :=
  ⟨x0 % 1073741824, y0 % 1073741824, ⟨by omega, by omega, by omega, by omega⟩, point_core x0 y0 _ _ (mask30 x0) (mask30 y0)⟩
end Go.Proofs.YtlipbdiijjfheaaGreatDoor
