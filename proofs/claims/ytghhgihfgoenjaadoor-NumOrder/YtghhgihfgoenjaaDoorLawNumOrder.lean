/-
  The law NumOrder answers true for any two numbers of 64 bits, in whatever memory where the library's table of powers of ten holds what its initialiser lays: the walk.
-/
import Derived.Test.YtghhgihfgoenjaaDoorAwake
import Derived.Test.YtghhgihfgoenjaaDoorNumAny
namespace Go.Proofs.YtghhgihfgoenjaaDoor
open Go.RowKit Go.Shelf

set_option maxRecDepth 100000 in
set_option maxHeartbeats 1000000 in
theorem order_yes (a b : Int) (a1 : -9223372036854775808 ≤ a) (a2 : a ≤ 9223372036854775807) (b1 : -9223372036854775808 < b) (b2 : b ≤ 9223372036854775807) (w : World) (htab : Tab w) :
    Calls Tryd.prog 3 #[.int .i64 a, .int .i64 b] w fun e w' => e = .returned (.bool true) ∧ Below w.heap.size w w' := by
  go_enter Tryd.func3, Tryd.ntmps3
  go_wp2_with fail
  refine (add_any a b a1 a2 (by omega) b2 _).mono ?_
  rintro e w1 ⟨rfl, c1⟩
  go_wp2_with fail
  refine (add_any b a (by omega) b2 a1 a2 _).mono ?_
  rw [Int.add_comm b a]
  rintro e w2 ⟨rfl, c2⟩
  replace c2 := belowT c1 c2
  clear c1
  go_wp2_with fail
  refine (mul_any a b a1 a2 (by omega) b2 _).mono ?_
  rintro e w3 ⟨rfl, c3⟩
  replace c3 := belowT c2 c3
  clear c2
  go_wp2_with fail
  refine (mul_any b a (by omega) b2 a1 a2 _).mono ?_
  rw [Int.mul_comm b a]
  rintro e w4 ⟨rfl, c4⟩
  replace c4 := belowT c3 c4
  clear c3
  go_wp2_with fail
  refine (neg_fits b b1 b2 _).mono ?_
  rintro e w5 ⟨rfl, c5⟩
  replace c5 := belowT c4 c5
  clear c4
  go_wp2_with fail
  refine (sub_any a b a1 a2 (by omega) b2 _).mono ?_
  rintro e w6 ⟨rfl, c6⟩
  replace c6 := belowT c5 c6
  clear c5
  go_wp2_with fail
  refine (add_any a (-b) a1 a2 (by omega) (by omega) _).mono ?_
  rw [show a + -b = a - b by omega]
  rintro e w7 ⟨rfl, c7⟩
  replace c7 := belowT c6 c7
  clear c6
  go_wp2_with fail
  refine (awake _ (htab.below c7)).mono ?_
  rintro e w8 ⟨rfl, c8⟩
  replace c8 := belowT c7 c8
  clear c7
  go_wp2
  go_ret
  exact ⟨rfl, c8⟩

set_option maxRecDepth 100000 in
set_option maxHeartbeats 1000000 in
theorem order_low (a : Int) (a1 : -9223372036854775808 ≤ a) (a2 : a ≤ 9223372036854775807) (w : World) (htab : Tab w) :
    Calls Tryd.prog 3 #[.int .i64 a, .int .i64 (-9223372036854775808)] w fun e w' => e = .returned (.bool true) ∧ Below w.heap.size w w' := by
  go_enter Tryd.func3, Tryd.ntmps3
  go_wp2_with fail
  refine (add_any a (-9223372036854775808) a1 a2 (by omega) (by omega) _).mono ?_
  rintro e w1 ⟨rfl, c1⟩
  go_wp2_with fail
  refine (add_any (-9223372036854775808) a (by omega) (by omega) a1 a2 _).mono ?_
  rw [Int.add_comm (-9223372036854775808) a]
  rintro e w2 ⟨rfl, c2⟩
  replace c2 := belowT c1 c2
  clear c1
  go_wp2_with fail
  refine (mul_any a (-9223372036854775808) a1 a2 (by omega) (by omega) _).mono ?_
  rintro e w3 ⟨rfl, c3⟩
  replace c3 := belowT c2 c3
  clear c2
  go_wp2_with fail
  refine (mul_any (-9223372036854775808) a (by omega) (by omega) a1 a2 _).mono ?_
  rw [Int.mul_comm (-9223372036854775808) a]
  rintro e w4 ⟨rfl, c4⟩
  replace c4 := belowT c3 c4
  clear c3
  go_wp2_with fail
  refine (neg_low _).mono ?_
  rintro e w5 ⟨rfl, c5⟩
  replace c5 := belowT c4 c5
  clear c4
  go_wp2_with fail
  refine (sub_any a (-9223372036854775808) a1 a2 (by omega) (by omega) _).mono ?_
  rintro e w6 ⟨rfl, c6⟩
  replace c6 := belowT c5 c6
  clear c5
  go_wp2_with fail
  refine (awake _ (htab.below c6)).mono ?_
  rintro e w8 ⟨rfl, c8⟩
  replace c8 := belowT c6 c8
  clear c6
  go_wp2
  go_ret
  exact ⟨rfl, c8⟩

theorem order_law (a : Int) (a1 : -9223372036854775808 ≤ a) (a2 : a ≤ 9223372036854775807) (b : Int) (b1 : -9223372036854775808 ≤ b) (b2 : b ≤ 9223372036854775807) (w : World) (htab : Tab w) :
    Calls Tryd.prog 3 #[.int .i64 a, .int .i64 b] w fun e w' => e = .returned (.bool true) ∧ Below w.heap.size w w' := by
  by_cases h : b = -9223372036854775808
  · subst h; exact order_low a a1 a2 w htab
  · exact order_yes a b a1 a2 (by omega) b2 w htab
end Go.Proofs.YtghhgihfgoenjaaDoor
