/-
  The law NumFloors answers true for any two numbers and any exponent of 64 bits, in whatever memory where the library's table of powers of ten holds what its initialiser lays: the walk.
-/
import Derived.Test.YtghhgihfgoenjaaDoorAwake
import Derived.Test.YtghhgihfgoenjaaDoorNumPow
import Derived.Test.YtghhgihfgoenjaaDoorRefFloor
import Derived.Test.YtghhgihfgoenjaaDoorRefPow
namespace Go.Proofs.YtghhgihfgoenjaaDoor
open Go.RowKit Go.Shelf

set_option maxRecDepth 100000 in
set_option maxHeartbeats 1000000 in
theorem floors_no_below (a b : Int) (k : Int) (hk : k < 0) (k1 : -9223372036854775808 ≤ k) (_a1 : -9223372036854775808 ≤ a) (_a2 : a ≤ 9223372036854775807) (hb : b ≤ 0) (w : World) (htab : Tab w) :
    Calls Tryd.prog 6 #[.int .i64 a, .int .i64 b, .int .i64 k] w fun e w' => e = .returned (.bool true) ∧ Below w.heap.size w w' := by
  go_enter Tryd.func6, Tryd.ntmps6
  go_wp2_with fail
  refine (floor_no a b hb _).mono ?_
  rintro e w1 ⟨rfl, c1⟩
  go_wp2_with fail
  refine (reffloor_no a b hb _).mono ?_
  rintro e w2 ⟨rfl, c2⟩
  replace c2 := belowT c1 c2
  clear c1
  go_wp2_with fail
  refine (shl_below a k hk _).mono ?_
  rintro e w3 ⟨rfl, c3⟩
  replace c3 := belowT c2 c3
  clear c2
  go_wp2_with fail
  refine (refshl_below a k hk _).mono ?_
  rintro e w4 ⟨rfl, c4⟩
  replace c4 := belowT c3 c4
  clear c3
  go_wp2_with fail
  refine (pow_below a k hk k1 _).mono ?_
  rintro e w5 ⟨rfl, c5⟩
  replace c5 := belowT c4 c5
  clear c4
  go_wp2_with fail
  refine (refpow_below a k hk _).mono ?_
  rintro e w6 ⟨rfl, c6⟩
  replace c6 := belowT c5 c6
  clear c5
  go_wp2_with fail
  refine (awake _ (htab.below c6)).mono ?_
  rintro e w7 ⟨rfl, c7⟩
  replace c7 := belowT c6 c7
  clear c6
  go_wp2
  go_ret
  exact ⟨rfl, c7⟩

set_option maxRecDepth 100000 in
set_option maxHeartbeats 1000000 in
theorem floors_no_at (a b : Int) (K : Nat) (hK : K ≤ 9223372036854775807) (a1 : -9223372036854775808 ≤ a) (a2 : a ≤ 9223372036854775807) (hb : b ≤ 0) (w : World) (htab : Tab w) :
    Calls Tryd.prog 6 #[.int .i64 a, .int .i64 b, .int .i64 (K : Int)] w fun e w' => e = .returned (.bool true) ∧ Below w.heap.size w w' := by
  go_enter Tryd.func6, Tryd.ntmps6
  go_wp2_with fail
  refine (floor_no a b hb _).mono ?_
  rintro e w1 ⟨rfl, c1⟩
  go_wp2_with fail
  refine (reffloor_no a b hb _).mono ?_
  rintro e w2 ⟨rfl, c2⟩
  replace c2 := belowT c1 c2
  clear c1
  go_wp2_with fail
  refine (shl_any a K _).mono ?_
  rintro e w3 ⟨rfl, c3⟩
  replace c3 := belowT c2 c3
  clear c2
  go_wp2_with fail
  refine (refshl_any a K a1 a2 hK _).mono ?_
  rintro e w4 ⟨rfl, c4⟩
  replace c4 := belowT c3 c4
  clear c3
  go_wp2_with fail
  refine (pow_any a K a1 a2 hK _).mono ?_
  rintro e w5 ⟨rfl, c5⟩
  replace c5 := belowT c4 c5
  clear c4
  go_wp2_with fail
  refine (refpow_any a K a1 a2 hK _).mono ?_
  rintro e w6 ⟨rfl, c6⟩
  replace c6 := belowT c5 c6
  clear c5
  go_wp2_with fail
  refine (awake _ (htab.below c6)).mono ?_
  rintro e w7 ⟨rfl, c7⟩
  replace c7 := belowT c6 c7
  clear c6
  go_wp2
  go_ret
  exact ⟨rfl, c7⟩

set_option maxRecDepth 100000 in
set_option maxHeartbeats 1000000 in
theorem floors_any_below (a b : Int) (k : Int) (hk : k < 0) (k1 : -9223372036854775808 ≤ k) (a1 : -9223372036854775808 ≤ a) (a2 : a ≤ 9223372036854775807) (hb : 0 < b) (b2 : b ≤ 9223372036854775807) (w : World) (htab : Tab w) :
    Calls Tryd.prog 6 #[.int .i64 a, .int .i64 b, .int .i64 k] w fun e w' => e = .returned (.bool true) ∧ Below w.heap.size w w' := by
  go_enter Tryd.func6, Tryd.ntmps6
  go_wp2_with fail
  refine (floor_any a b a1 a2 hb b2 _).mono ?_
  rintro e w1 ⟨rfl, c1⟩
  go_wp2_with fail
  refine (reffloor_any a b a1 a2 hb b2 _).mono ?_
  rintro e w2 ⟨rfl, c2⟩
  replace c2 := belowT c1 c2
  clear c1
  go_wp2_with fail
  refine (shl_below a k hk _).mono ?_
  rintro e w3 ⟨rfl, c3⟩
  replace c3 := belowT c2 c3
  clear c2
  go_wp2_with fail
  refine (refshl_below a k hk _).mono ?_
  rintro e w4 ⟨rfl, c4⟩
  replace c4 := belowT c3 c4
  clear c3
  go_wp2_with fail
  refine (pow_below a k hk k1 _).mono ?_
  rintro e w5 ⟨rfl, c5⟩
  replace c5 := belowT c4 c5
  clear c4
  go_wp2_with fail
  refine (refpow_below a k hk _).mono ?_
  rintro e w6 ⟨rfl, c6⟩
  replace c6 := belowT c5 c6
  clear c5
  go_wp2_with fail
  refine (awake _ (htab.below c6)).mono ?_
  rintro e w7 ⟨rfl, c7⟩
  replace c7 := belowT c6 c7
  clear c6
  go_wp2
  go_ret
  exact ⟨rfl, c7⟩

set_option maxRecDepth 100000 in
set_option maxHeartbeats 1000000 in
theorem floors_any_at (a b : Int) (K : Nat) (hK : K ≤ 9223372036854775807) (a1 : -9223372036854775808 ≤ a) (a2 : a ≤ 9223372036854775807) (hb : 0 < b) (b2 : b ≤ 9223372036854775807) (w : World) (htab : Tab w) :
    Calls Tryd.prog 6 #[.int .i64 a, .int .i64 b, .int .i64 (K : Int)] w fun e w' => e = .returned (.bool true) ∧ Below w.heap.size w w' := by
  go_enter Tryd.func6, Tryd.ntmps6
  go_wp2_with fail
  refine (floor_any a b a1 a2 hb b2 _).mono ?_
  rintro e w1 ⟨rfl, c1⟩
  go_wp2_with fail
  refine (reffloor_any a b a1 a2 hb b2 _).mono ?_
  rintro e w2 ⟨rfl, c2⟩
  replace c2 := belowT c1 c2
  clear c1
  go_wp2_with fail
  refine (shl_any a K _).mono ?_
  rintro e w3 ⟨rfl, c3⟩
  replace c3 := belowT c2 c3
  clear c2
  go_wp2_with fail
  refine (refshl_any a K a1 a2 hK _).mono ?_
  rintro e w4 ⟨rfl, c4⟩
  replace c4 := belowT c3 c4
  clear c3
  go_wp2_with fail
  refine (pow_any a K a1 a2 hK _).mono ?_
  rintro e w5 ⟨rfl, c5⟩
  replace c5 := belowT c4 c5
  clear c4
  go_wp2_with fail
  refine (refpow_any a K a1 a2 hK _).mono ?_
  rintro e w6 ⟨rfl, c6⟩
  replace c6 := belowT c5 c6
  clear c5
  go_wp2_with fail
  refine (awake _ (htab.below c6)).mono ?_
  rintro e w7 ⟨rfl, c7⟩
  replace c7 := belowT c6 c7
  clear c6
  go_wp2
  go_ret
  exact ⟨rfl, c7⟩

theorem floors_law (a : Int) (a1 : -9223372036854775808 ≤ a) (a2 : a ≤ 9223372036854775807) (b : Int) (_b1 : -9223372036854775808 ≤ b) (b2 : b ≤ 9223372036854775807) (k : Int) (k1 : -9223372036854775808 ≤ k) (k2 : k ≤ 9223372036854775807) (w : World) (htab : Tab w) :
    Calls Tryd.prog 6 #[.int .i64 a, .int .i64 b, .int .i64 k] w fun e w' => e = .returned (.bool true) ∧ Below w.heap.size w w' := by
  by_cases hk : k < 0
  · by_cases hb : b ≤ 0
    · exact floors_no_below a b k hk k1 a1 a2 hb w htab
    · exact floors_any_below a b k hk k1 a1 a2 (by omega) b2 w htab
  · obtain ⟨K, rfl⟩ := Int.eq_ofNat_of_zero_le (show 0 ≤ k by omega)
    by_cases hb : b ≤ 0
    · exact floors_no_at a b K (by omega) a1 a2 hb w htab
    · exact floors_any_at a b K (by omega) a1 a2 (by omega) b2 w htab
end Go.Proofs.YtghhgihfgoenjaaDoor
