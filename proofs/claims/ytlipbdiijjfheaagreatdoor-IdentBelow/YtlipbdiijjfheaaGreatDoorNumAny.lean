/-
  Add, Sub, Neg, Mul and Shl of package num in one word each: the whole number kept where it fits, and whether it fits; for any numbers of 64 bits, in whatever memory.
-/
import Derived.Test.YtlipbdiijjfheaaGreatDoorNumPairs
namespace Go.Proofs.YtlipbdiijjfheaaGreatDoor
open Go.RowKit

theorem add_any (a b : Int) (a1 : -9223372036854775808 ≤ a) (a2 : a ≤ 9223372036854775807) (b1 : -9223372036854775808 ≤ b) (b2 : b ≤ 9223372036854775807) (w : World) :
    Calls Tryz.prog 112 #[.int .i64 a, .int .i64 b] w fun e w' => e = .returned (.tuple #[.int .i64 (kept (a + b)), .bool (fits (a + b))]) ∧ Below w.heap.size w w' := by
  by_cases h : -9223372036854775808 ≤ a + b ∧ a + b ≤ 9223372036854775807
  · rw [kept_mk (fits_mk h), fits_mk h]; exact add_fits a b a1 a2 h.1 h.2 w
  · rw [kept_no (fits_no h), fits_no h]; exact add_over a b a1 a2 b1 b2 (by omega) w

theorem sub_any (a b : Int) (a1 : -9223372036854775808 ≤ a) (a2 : a ≤ 9223372036854775807) (b1 : -9223372036854775808 ≤ b) (b2 : b ≤ 9223372036854775807) (w : World) :
    Calls Tryz.prog 134 #[.int .i64 a, .int .i64 b] w fun e w' => e = .returned (.tuple #[.int .i64 (kept (a - b)), .bool (fits (a - b))]) ∧ Below w.heap.size w w' := by
  by_cases h : -9223372036854775808 ≤ a - b ∧ a - b ≤ 9223372036854775807
  · rw [kept_mk (fits_mk h), fits_mk h]; exact sub_fits a b a1 a2 h.1 h.2 w
  · rw [kept_no (fits_no h), fits_no h]; exact sub_over a b a1 a2 b1 b2 (by omega) w


theorem neg_any (b : Int) (b1 : -9223372036854775808 ≤ b) (b2 : b ≤ 9223372036854775807) (w : World) :
    Calls Tryz.prog 135 #[.int .i64 b] w fun e w' => e = .returned (.tuple #[.int .i64 (kept (-b)), .bool (fits (-b))]) ∧ Below w.heap.size w w' := by
  by_cases h : -9223372036854775808 ≤ -b ∧ -b ≤ 9223372036854775807
  · rw [kept_mk (fits_mk h), fits_mk h]; exact neg_fits b (by omega) b2 w
  · obtain rfl : b = -9223372036854775808 := by omega
    rw [kept_no (fits_no h), fits_no h]; exact neg_low w

end Go.Proofs.YtlipbdiijjfheaaGreatDoor
