/-
  The law NumEnds answers true for every number of 64 bits, in whatever memory where the library's table of powers of ten holds what its initialiser lays: the walk.
-/
import Derived.Test.YtghhgihfgoenjabDoorAwake
import Derived.Test.YtghhgihfgoenjabDoorNumMul
import Derived.Test.YtghhgihfgoenjabDoorMask
namespace Go.Proofs.YtghhgihfgoenjabDoor
open Go.RowKit Go.Shelf

theorem two63 : (-1 : Int) * 2 ^ 63 = -9223372036854775808 := by decide +kernel
theorem one63 : (1 : Int) * 2 ^ 63 = 9223372036854775808 := by decide +kernel
theorem shl_top (w : World) :
    Calls Tryd.prog 8 #[.int .i64 1, .int .i64 63] w fun e w' => e = .returned (.tuple #[.int .i64 0, .bool false]) ∧ Below w.heap.size w w' :=
  shl_over 1 63 (by rw [one63]; omega) w
theorem shl_low (w : World) :
    Calls Tryd.prog 8 #[.int .i64 (-1), .int .i64 63] w fun e w' => e = .returned (.tuple #[.int .i64 (-9223372036854775808), .bool true]) ∧ Below w.heap.size w w' := by
  have := shl_fits (-1) 63 (by rw [two63]; omega) w
  rw [two63] at this
  exact this
theorem mul_one_low (w : World) :
    Calls Tryd.prog 7 #[.int .i64 (-9223372036854775808), .int .i64 1] w fun e w' => e = .returned (.tuple #[.int .i64 (-9223372036854775808), .bool true]) ∧ Below w.heap.size w w' := by
  have := mul_fits (-9223372036854775808) 1 (by omega) (by omega) (by omega) (by omega) (by omega) w
  rw [Int.mul_one] at this
  exact this

set_option maxRecDepth 100000 in
set_option maxHeartbeats 1000000 in
theorem ends_law (k : Int) (w : World) (htab : Tab w) :
    Calls Tryd.prog 3 #[.int .i64 k] w fun e w' => e = .returned (.bool true) ∧ Below w.heap.size w w' := by
  obtain ⟨m, hm, h1, h2⟩ : ∃ m, bits .and .i64 k 65535 = m ∧ 0 ≤ m ∧ m ≤ 65535 := ⟨_, mask16 k, by omega, by omega⟩
  go_enter Tryd.func3, Tryd.ntmps3
  go_wp2_with fail
  refine (add_fits (9223372036854775807 - (m + 1)) (m + 1) (by omega) (by omega) (by omega) (by omega) _).mono ?_
  rintro e w1 ⟨rfl, b1⟩
  go_wp2_with fail
  refine (add_over (9223372036854775807 - (m + 1)) (m + 1 + 1) (by omega) (by omega) (by omega) (by omega) (by omega) _).mono ?_
  rintro e w2 ⟨rfl, b2⟩
  replace b2 := belowT b1 b2
  clear b1
  go_wp2_with fail
  refine (sub_fits (-9223372036854775808 + (m + 1)) (m + 1) (by omega) (by omega) (by omega) (by omega) _).mono ?_
  rintro e w3 ⟨rfl, b3⟩
  replace b3 := belowT b2 b3
  clear b2
  go_wp2_with fail
  refine (sub_over (-9223372036854775808 + (m + 1)) (m + 1 + 1) (by omega) (by omega) (by omega) (by omega) (by omega) _).mono ?_
  rintro e w4 ⟨rfl, b4⟩
  replace b4 := belowT b3 b4
  clear b3
  go_wp2_with fail
  refine (neg_low _).mono ?_
  rintro e w5 ⟨rfl, b5⟩
  replace b5 := belowT b4 b5
  clear b4
  go_wp2_with fail
  refine (neg_fits (-9223372036854775808 + (m + 1)) (by omega) (by omega) _).mono ?_
  rintro e w6 ⟨rfl, b6⟩
  replace b6 := belowT b5 b6
  clear b5
  go_wp2_with fail
  refine (mul_over (-9223372036854775808) (-1) (by omega) (by omega) (by omega) (by omega) (by omega) _).mono ?_
  rintro e w7 ⟨rfl, b7⟩
  replace b7 := belowT b6 b7
  clear b6
  go_wp2_with fail
  refine (mul_one_low _).mono ?_
  rintro e w8 ⟨rfl, b8⟩
  replace b8 := belowT b7 b8
  clear b7
  go_wp2_with fail
  refine (shl_top _).mono ?_
  rintro e w9 ⟨rfl, b9⟩
  replace b9 := belowT b8 b9
  clear b8
  go_wp2_with fail
  refine (shl_low _).mono ?_
  rintro e w10 ⟨rfl, b10⟩
  replace b10 := belowT b9 b10
  clear b9
  go_wp2_with fail
  refine (awake _ (htab.below b10)).mono ?_
  rintro e w11 ⟨rfl, b11⟩
  replace b11 := belowT b10 b11
  clear b10
  go_wp2
  go_ret
  exact ⟨rfl, b11⟩
end Go.Proofs.YtghhgihfgoenjabDoor
