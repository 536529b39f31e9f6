/-
  Awake, the fixed part of every law over package eisen, answers true in whatever memory where the package's table of Units holds what its text lays.
-/
import Derived.Test.YtpncnpmikhbmnaaDoorENorm
import Derived.Test.YtpncnpmikhbmnaaDoorEUnit
namespace Go.Proofs.YtpncnpmikhbmnaaDoor
open Go.RowKit

theorem awM (w : World) : Calls Tryd.prog 10 #[.agg #[.int .i64 2, .int .i64 1], .agg #[.int .i64 3, .int .i64 (-1)]] w fun e w' => e = .returned (.tuple #[.agg #[.int .i64 7, .int .i64 0], .bool true]) ∧ Below w.heap.size w w' :=
  emul_any 2 1 3 (-1) (by omega) (by omega) (by omega) (by omega) (by omega) (by omega) (by omega) (by omega) w
theorem awN (w : World) : Calls Tryd.prog 12 #[.agg #[.int .i64 2, .int .i64 1]] w fun e w' => e = .returned (.tuple #[.int .i64 7, .bool true]) ∧ Below w.heap.size w w' :=
  enorm_any 2 1 (by omega) (by omega) (by omega) (by omega) w
theorem awU2 (w : World) (hU : Uni w) : Calls Tryd.prog 11 #[.int .i64 2] w fun e w' => e = .returned (.agg #[.int .i64 (-1), .int .i64 1]) ∧ Below w.heap.size w w' :=
  eunit_any 2 (by omega) (by omega) w hU
theorem awU5 (w : World) (hU : Uni w) : Calls Tryd.prog 11 #[.int .i64 (-1)] w fun e w' => e = .returned (.agg #[.int .i64 1, .int .i64 (-1)]) ∧ Below w.heap.size w w' :=
  eunit_any (-1) (by omega) (by omega) w hU

set_option maxHeartbeats 1000000 in
theorem awake (w : World) (hU : Uni w) :
    Calls Tryd.prog 14 #[] w fun e w' => e = .returned (.bool true) ∧ Below w.heap.size w w' := by
  go_enter Tryd.func14, Tryd.ntmps14
  go_wp2_with fail
  refine (awM _).mono ?_
  rintro e w1 ⟨rfl, d1⟩
  have c1 : Below w.heap.size w w1 := Below.trans (by go_grown) (d1.mono (by simp; try omega))
  have hB := c1
  clear c1 d1
  go_wp2_with fail
  refine (awN _).mono ?_
  rintro e w2 ⟨rfl, d2⟩
  have c2 : Below w1.heap.size w1 w2 := Below.trans (by go_grown) (d2.mono (by simp; try omega))
  have z0 : w2.cell? ⟨w1.heap.size, 0, none⟩ = some (.int .i64 7) := keepCell d2 (by go_simp)
  have qz0 := World.block_lt_of_cell? _ _ z0
  have z1 : w2.cell? ⟨w1.heap.size, 1, none⟩ = some (.int .i64 0) := keepCell d2 (by go_simp)
  replace hB := belowT hB c2
  clear c2 d2
  go_wp2_with fail
  refine (awU2 _ ?_).mono ?_
  · exact hU.below (belowT hB (by go_grown))
  rintro e w3 ⟨rfl, d3⟩
  have c3 : Below w2.heap.size w2 w3 := Below.trans (by go_grown) (d3.mono (by simp; try omega))
  replace z0 := keepCell c3 z0
  replace qz0 := World.block_lt_of_cell? _ _ z0
  replace z1 := keepCell c3 z1
  replace hB := belowT hB c3
  clear c3 d3
  go_wp2_with fail
  refine (awU5 _ ?_).mono ?_
  · exact hU.below (belowT hB (by go_grown))
  rintro e w4 ⟨rfl, d4⟩
  have c4 : Below w3.heap.size w3 w4 := Below.trans (by go_grown) (d4.mono (by simp; try omega))
  replace z0 := keepCell c4 z0
  replace qz0 := World.block_lt_of_cell? _ _ z0
  replace z1 := keepCell c4 z1
  replace hB := belowT hB c4
  clear c4 d4
  go_wp2
  go_ret
  exact ⟨rfl, hB⟩
end Go.Proofs.YtpncnpmikhbmnaaDoor
