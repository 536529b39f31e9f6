/-
  The law NumReckons answers true for any two numbers of 64 bits, in whatever memory where the library's table of powers of ten holds what its initialiser lays: the walk.
-/
import Derived.Test.YtghhgihfgoenjaaDoorAwake
import Derived.Test.YtghhgihfgoenjaaDoorNumAny
import Derived.Test.YtghhgihfgoenjaaDoorTimes
namespace Go.Proofs.YtghhgihfgoenjaaDoor
open Go.RowKit Go.Shelf

set_option maxRecDepth 100000 in
set_option maxHeartbeats 1000000 in
theorem reckons_law (a : Int) (a1 : -9223372036854775808 ≤ a) (a2 : a ≤ 9223372036854775807) (b : Int) (b1 : -9223372036854775808 ≤ b) (b2 : b ≤ 9223372036854775807) (w : World) (htab : Tab w) :
    Calls Tryd.prog 5 #[.int .i64 a, .int .i64 b] w fun e w' => e = .returned (.bool true) ∧ Below w.heap.size w w' := by
  have pb : Hid (-170141183460469231731687303715884105728 ≤ a * b ∧ a * b < 170141183460469231731687303715884105728) := prod_bd a b a1 a2 b1 b2
  go_enter Tryd.func5, Tryd.ntmps5
  go_wp2_with fail
  refine (add_any a b a1 a2 b1 b2 _).mono ?_
  rintro e w1 ⟨rfl, c1⟩
  go_wp2_with fail
  refine (sub_any a b a1 a2 b1 b2 _).mono ?_
  rintro e w2 ⟨rfl, c2⟩
  replace c2 := belowT c1 c2
  clear c1
  go_wp2_with fail
  refine (mul_any a b a1 a2 b1 b2 _).mono ?_
  rintro e w3 ⟨rfl, c3⟩
  replace c3 := belowT c2 c3
  clear c2
  go_wp2_with fail
  refine (neg_any a a1 a2 _).mono ?_
  rintro e w4 ⟨rfl, c4⟩
  replace c4 := belowT c3 c4
  clear c3
  go_wp2_with fail
  refine (wide_any a a1 a2 _).mono ?_
  rintro e w5 ⟨rfl, c5⟩
  replace c5 := belowT c4 c5
  clear c4
  go_wp2_with fail
  refine (wide_any b b1 b2 _).mono ?_
  rintro e w6 ⟨rfl, c6⟩
  replace c6 := belowT c5 c6
  clear c5
  go_wp2_with fail
  refine (plus_any a b _).mono ?_
  rintro e w7 ⟨rfl, c7⟩
  replace c7 := belowT c6 c7
  clear c6
  go_wp2_with fail
  refine (small_any (a + b) (by omega) (by omega) _).mono ?_
  rintro e w8 ⟨rfl, c8⟩
  replace c8 := belowT c7 c8
  clear c7
  go_wp2_with fail
  refine (wide_any a a1 a2 _).mono ?_
  rintro e w9 ⟨rfl, c9⟩
  replace c9 := belowT c8 c9
  clear c8
  go_wp2_with fail
  refine (wide_any b b1 b2 _).mono ?_
  rintro e w10 ⟨rfl, c10⟩
  replace c10 := belowT c9 c10
  clear c9
  go_wp2_with fail
  refine (turned_any b _).mono ?_
  rintro e w11 ⟨rfl, c11⟩
  replace c11 := belowT c10 c11
  clear c10
  go_wp2_with fail
  refine (plus_any a (-b) _).mono ?_
  rw [show a + -b = a - b by omega]
  rintro e w12 ⟨rfl, c12⟩
  replace c12 := belowT c11 c12
  clear c11
  go_wp2_with fail
  refine (small_any (a - b) (by omega) (by omega) _).mono ?_
  rintro e w13 ⟨rfl, c13⟩
  replace c13 := belowT c12 c13
  clear c12
  go_wp2_with fail
  refine (times_any a b a1 a2 b1 b2 _).mono ?_
  rintro e w14 ⟨rfl, c14⟩
  replace c14 := belowT c13 c14
  clear c13
  go_wp2_with fail
  refine (small_any (a * b) pb.out.1 pb.out.2 _).mono ?_
  rintro e w15 ⟨rfl, c15⟩
  replace c15 := belowT c14 c15
  clear c14
  go_wp2_with fail
  refine (wide_any a a1 a2 _).mono ?_
  rintro e w16 ⟨rfl, c16⟩
  replace c16 := belowT c15 c16
  clear c15
  go_wp2_with fail
  refine (turned_any a _).mono ?_
  rintro e w17 ⟨rfl, c17⟩
  replace c17 := belowT c16 c17
  clear c16
  go_wp2_with fail
  refine (small_any (-a) (by omega) (by omega) _).mono ?_
  rintro e w18 ⟨rfl, c18⟩
  replace c18 := belowT c17 c18
  clear c17
  go_wp2_with fail
  refine (awake _ (htab.below c18)).mono ?_
  rintro e w19 ⟨rfl, c19⟩
  replace c19 := belowT c18 c19
  clear c18
  go_wp2
  go_ret
  exact ⟨rfl, c19⟩
end Go.Proofs.YtghhgihfgoenjaaDoor
