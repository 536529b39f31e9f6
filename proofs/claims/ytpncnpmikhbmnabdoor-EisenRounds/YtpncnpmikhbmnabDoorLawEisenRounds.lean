/-
  The law EisenRounds answers true for every number and divisor, in whatever memory where the package's table of Units holds what its text lays: what is told is the nearest centre, the least of several, and only one is that.
-/
import Derived.Test.YtpncnpmikhbmnabDoorAwakeE
import Derived.Test.YtpncnpmikhbmnabDoorENear
import Derived.Test.YtpncnpmikhbmnabDoorRefRound
namespace Go.Proofs.YtpncnpmikhbmnabDoor
open Go.RowKit

set_option maxHeartbeats 1000000 in
theorem rounds_in (u v d : Int) (h1 : -1152921504606846976 ≤ u) (h2 : u ≤ 1152921504606846976) (h3 : -1152921504606846976 ≤ v) (h4 : v ≤ 1152921504606846976) (h5 : 1 ≤ d) (h6 : d ≤ 1125899906842624) (w : World) (hU : Uni w) :
    Calls Tryd.prog 3 #[.agg #[.int .i64 u, .int .i64 v], .int .i64 d] w fun e w' => e = .returned (.bool true) ∧ Below w.heap.size w w' := by
  go_enter Tryd.func3, Tryd.ntmps3
  go_wp2_with fail
  refine (eround_see u v d h1 h2 h3 h4 h5 h6 _).mono ?_
  rintro e w1 ⟨⟨a, b, rfl, hn⟩, d1⟩
  have c1 : Below w.heap.size w w1 := Below.trans (by go_grown) (d1.mono (by simp; try omega))
  have x0 : w1.cell? ⟨w.heap.size, 0, none⟩ = some (.int .i64 u) := keepCell d1 (by go_simp)
  have qx0 := World.block_lt_of_cell? _ _ x0
  have x1 : w1.cell? ⟨w.heap.size, 1, none⟩ = some (.int .i64 v) := keepCell d1 (by go_simp)
  have hB := c1
  clear c1 d1
  replace hn : Hid _ := hn
  go_wp2_with fail
  refine (refround_see u v d h1 h2 h3 h4 h5 h6 _).mono ?_
  rintro e w2 ⟨⟨a', b', rfl, hn'⟩, d2⟩
  have c2 : Below w1.heap.size w1 w2 := Below.trans (by go_grown) (d2.mono (by simp; try omega))
  replace x0 := keepCell c2 x0
  replace qx0 := World.block_lt_of_cell? _ _ x0
  replace x1 := keepCell c2 x1
  have z0 : w2.cell? ⟨w1.heap.size, 0, none⟩ = some (.int .i64 a) := keepCell d2 (by go_simp)
  have qz0 := World.block_lt_of_cell? _ _ z0
  have z1 : w2.cell? ⟨w1.heap.size, 1, none⟩ = some (.int .i64 b) := keepCell d2 (by go_simp)
  replace hB := belowT hB c2
  clear c2 d2
  obtain ⟨rfl, rfl⟩ := nearest_one hn.out hn'
  clear hn hn'
  go_wp2_with fail
  refine (awake _ ?_).mono ?_
  · exact hU.below (belowT hB (by go_grown))
  rintro e w3 ⟨rfl, d3⟩
  have c3 : Below w2.heap.size w2 w3 := Below.trans (by go_grown) (d3.mono (by simp; try omega))
  replace x0 := keepCell c3 x0
  replace qx0 := World.block_lt_of_cell? _ _ x0
  replace x1 := keepCell c3 x1
  replace z0 := keepCell c3 z0
  replace qz0 := World.block_lt_of_cell? _ _ z0
  replace z1 := keepCell c3 z1
  replace hB := belowT hB c3
  clear c3 d3
  go_wp2
  go_ret
  exact ⟨rfl, hB⟩

set_option maxHeartbeats 1000000 in
theorem rounds_out (u v d : Int) (h : ¬ (1 ≤ d ∧ d ≤ 1125899906842624 ∧ -1152921504606846976 ≤ u ∧ u ≤ 1152921504606846976 ∧ -1152921504606846976 ≤ v ∧ v ≤ 1152921504606846976)) (w : World) (hU : Uni w) :
    Calls Tryd.prog 3 #[.agg #[.int .i64 u, .int .i64 v], .int .i64 d] w fun e w' => e = .returned (.bool true) ∧ Below w.heap.size w w' := by
  have H1 := eround_no u v d h
  have H2 := refround_no u v d h
  replace H1 : Hid _ := H1
  replace H2 : Hid _ := H2
  clear h
  go_enter Tryd.func3, Tryd.ntmps3
  go_wp2_with fail
  refine (H1.out _).mono ?_
  rintro e w1 ⟨rfl, d1⟩
  have c1 : Below w.heap.size w w1 := Below.trans (by go_grown) (d1.mono (by simp; try omega))
  have x0 : w1.cell? ⟨w.heap.size, 0, none⟩ = some (.int .i64 u) := keepCell d1 (by go_simp)
  have qx0 := World.block_lt_of_cell? _ _ x0
  have x1 : w1.cell? ⟨w.heap.size, 1, none⟩ = some (.int .i64 v) := keepCell d1 (by go_simp)
  have hB := c1
  clear c1 d1
  go_wp2_with fail
  refine (H2.out _).mono ?_
  rintro e w2 ⟨rfl, d2⟩
  have c2 : Below w1.heap.size w1 w2 := Below.trans (by go_grown) (d2.mono (by simp; try omega))
  replace x0 := keepCell c2 x0
  replace qx0 := World.block_lt_of_cell? _ _ x0
  replace x1 := keepCell c2 x1
  have z0 : w2.cell? ⟨w1.heap.size, 0, none⟩ = some (.int .i64 0) := keepCell d2 (by go_simp)
  have qz0 := World.block_lt_of_cell? _ _ z0
  have z1 : w2.cell? ⟨w1.heap.size, 1, none⟩ = some (.int .i64 0) := keepCell d2 (by go_simp)
  replace hB := belowT hB c2
  clear c2 d2
  go_wp2_with fail
  refine (awake _ ?_).mono ?_
  · exact hU.below (belowT hB (by go_grown))
  rintro e w3 ⟨rfl, d3⟩
  have c3 : Below w2.heap.size w2 w3 := Below.trans (by go_grown) (d3.mono (by simp; try omega))
  replace x0 := keepCell c3 x0
  replace qx0 := World.block_lt_of_cell? _ _ x0
  replace x1 := keepCell c3 x1
  replace z0 := keepCell c3 z0
  replace qz0 := World.block_lt_of_cell? _ _ z0
  replace z1 := keepCell c3 z1
  replace hB := belowT hB c3
  clear c3 d3
  go_wp2
  go_ret
  exact ⟨rfl, hB⟩

theorem eisenRounds_walk (u v d : Int) (_u1 : -9223372036854775808 ≤ u) (_u2 : u ≤ 9223372036854775807) (_v1 : -9223372036854775808 ≤ v) (_v2 : v ≤ 9223372036854775807) (_d1 : -9223372036854775808 ≤ d) (_d2 : d ≤ 9223372036854775807) (w : World) (hU : Uni w) :
    Calls Tryd.prog 3 #[.agg #[.int .i64 u, .int .i64 v], .int .i64 d] w fun e w' => e = .returned (.bool true) ∧ Below w.heap.size w w' := by
  by_cases h : 1 ≤ d ∧ d ≤ 1125899906842624 ∧ -1152921504606846976 ≤ u ∧ u ≤ 1152921504606846976 ∧ -1152921504606846976 ≤ v ∧ v ≤ 1152921504606846976
  · exact rounds_in u v d h.2.2.1 h.2.2.2.1 h.2.2.2.2.1 h.2.2.2.2.2 h.1 h.2.1 w hU
  · exact rounds_out u v d h w hU
end Go.Proofs.YtpncnpmikhbmnabDoor
