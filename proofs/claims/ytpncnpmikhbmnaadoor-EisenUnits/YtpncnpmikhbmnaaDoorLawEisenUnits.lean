/-
  The law EisenUnits answers true for every number, in whatever memory where the package's table of Units holds what its text lays: the program's Units and powers are the document's own; every Unit's Norm is 1.
-/
import Derived.Test.YtpncnpmikhbmnaaDoorAwakeE
import Derived.Test.YtpncnpmikhbmnaaDoorEBeta
namespace Go.Proofs.YtpncnpmikhbmnaaDoor
open Go.RowKit

set_option maxHeartbeats 1000000 in
theorem units_core (k X Y UA UB : Int) (v : Bool)
    (B1 : ∀ w, Calls Tryd.prog 17 #[.int .i64 k] w fun e w' => e = .returned (.tuple #[.agg #[.int .i64 X, .int .i64 Y], .bool v]) ∧ Below w.heap.size w w')
    (B2 : ∀ w, Calls Tryd.prog 16 #[.int .i64 k] w fun e w' => e = .returned (.tuple #[.agg #[.int .i64 X, .int .i64 Y], .bool v]) ∧ Below w.heap.size w w')
    (U1 : ∀ w, Uni w → Calls Tryd.prog 11 #[.int .i64 k] w fun e w' => e = .returned (.agg #[.int .i64 UA, .int .i64 UB]) ∧ Below w.heap.size w w')
    (U2 : ∀ w, Calls Tryd.prog 30 #[.int .i64 k] w fun e w' => e = .returned (.agg #[.int .i64 UA, .int .i64 UB]) ∧ Below w.heap.size w w')
    (NO : ∀ w, Calls Tryd.prog 12 #[.agg #[.int .i64 UA, .int .i64 UB]] w fun e w' => e = .returned (.tuple #[.int .i64 1, .bool true]) ∧ Below w.heap.size w w')
    (w : World) (hU : Uni w) :
    Calls Tryd.prog 8 #[.int .i64 k] w fun e w' => e = .returned (.bool true) ∧ Below w.heap.size w w' := by
  replace B1 : Hid _ := B1
  replace B2 : Hid _ := B2
  replace U1 : Hid _ := U1
  replace U2 : Hid _ := U2
  replace NO : Hid _ := NO
  cases v
  all_goals
    go_enter Tryd.func8, Tryd.ntmps8
    go_wp2_with fail
    refine (B1.out _).mono ?_
    rintro e w1 ⟨rfl, d1⟩
    have c1 : Below w.heap.size w w1 := Below.trans (by go_grown) (d1.mono (by simp; try omega))
    have hB := c1
    clear c1 d1
    go_wp2_with fail
    refine (B2.out _).mono ?_
    rintro e w2 ⟨rfl, d2⟩
    have c2 : Below w1.heap.size w1 w2 := Below.trans (by go_grown) (d2.mono (by simp; try omega))
    have z0 : w2.cell? ⟨w1.heap.size, 0, none⟩ = some (.int .i64 X) := keepCell d2 (by go_simp)
    have qz0 := World.block_lt_of_cell? _ _ z0
    have z1 : w2.cell? ⟨w1.heap.size, 1, none⟩ = some (.int .i64 Y) := keepCell d2 (by go_simp)
    replace hB := belowT hB c2
    clear c2 d2
    go_wp2_with fail
    refine (U1.out _ ?_).mono ?_
    · exact hU.below (belowT hB (by go_grown))
    rintro e w3 ⟨rfl, d3⟩
    have c3 : Below w2.heap.size w2 w3 := Below.trans (by go_grown) (d3.mono (by simp; try omega))
    replace z0 := keepCell c3 z0
    replace qz0 := World.block_lt_of_cell? _ _ z0
    replace z1 := keepCell c3 z1
    have y0 : w3.cell? ⟨w2.heap.size, 0, none⟩ = some (.int .i64 X) := keepCell d3 (by go_simp)
    have qy0 := World.block_lt_of_cell? _ _ y0
    have y1 : w3.cell? ⟨w2.heap.size, 1, none⟩ = some (.int .i64 Y) := keepCell d3 (by go_simp)
    replace hB := belowT hB c3
    clear c3 d3
    go_wp2_with fail
    refine (NO.out _).mono ?_
    rintro e w4 ⟨rfl, d4⟩
    have c4 : Below w3.heap.size w3 w4 := Below.trans (by go_grown) (d4.mono (by simp; try omega))
    replace z0 := keepCell c4 z0
    replace qz0 := World.block_lt_of_cell? _ _ z0
    replace z1 := keepCell c4 z1
    replace y0 := keepCell c4 y0
    replace qy0 := World.block_lt_of_cell? _ _ y0
    replace y1 := keepCell c4 y1
    replace hB := belowT hB c4
    clear c4 d4
    go_wp2_with fail
    refine (U1.out _ ?_).mono ?_
    · exact hU.below (belowT hB (by go_grown))
    rintro e w5 ⟨rfl, d5⟩
    have c5 : Below w4.heap.size w4 w5 := Below.trans (by go_grown) (d5.mono (by simp; try omega))
    replace z0 := keepCell c5 z0
    replace qz0 := World.block_lt_of_cell? _ _ z0
    replace z1 := keepCell c5 z1
    replace y0 := keepCell c5 y0
    replace qy0 := World.block_lt_of_cell? _ _ y0
    replace y1 := keepCell c5 y1
    replace hB := belowT hB c5
    clear c5 d5
    go_wp2_with fail
    refine (U2.out _).mono ?_
    rintro e w6 ⟨rfl, d6⟩
    have c6 : Below w5.heap.size w5 w6 := Below.trans (by go_grown) (d6.mono (by simp; try omega))
    replace z0 := keepCell c6 z0
    replace qz0 := World.block_lt_of_cell? _ _ z0
    replace z1 := keepCell c6 z1
    replace y0 := keepCell c6 y0
    replace qy0 := World.block_lt_of_cell? _ _ y0
    replace y1 := keepCell c6 y1
    replace hB := belowT hB c6
    clear c6 d6
    go_wp2_with fail
    refine (awake _ ?_).mono ?_
    · exact hU.below (belowT hB (by go_grown))
    rintro e w7 ⟨rfl, d7⟩
    have c7 : Below w6.heap.size w6 w7 := Below.trans (by go_grown) (d7.mono (by simp; try omega))
    replace z0 := keepCell c7 z0
    replace qz0 := World.block_lt_of_cell? _ _ z0
    replace z1 := keepCell c7 z1
    replace y0 := keepCell c7 y0
    replace qy0 := World.block_lt_of_cell? _ _ y0
    replace y1 := keepCell c7 y1
    replace hB := belowT hB c7
    clear c7 d7
    go_wp2
    go_ret
    exact ⟨rfl, hB⟩

theorem unit_norm (j : Int) (h0 : 0 ≤ j) (h1 : j < 6) (w : World) : Calls Tryd.prog 12 #[.agg #[.int .i64 (unitA j), .int .i64 (unitB j)]] w fun e w' => e = .returned (.tuple #[.int .i64 1, .bool true]) ∧ Below w.heap.size w w' := by
  have hc : j = 0 ∨ j = 1 ∨ j = 2 ∨ j = 3 ∨ j = 4 ∨ j = 5 := by omega
  rcases hc with rfl | rfl | rfl | rfl | rfl | rfl <;> exact enorm_any _ _ (by decide) (by decide) (by decide) (by decide) w

theorem eisenUnits_walk (k : Int) (k1 : -9223372036854775808 ≤ k) (k2 : k ≤ 9223372036854775807) (w : World) (hU : Uni w) :
    Calls Tryd.prog 8 #[.int .i64 k] w fun e w' => e = .returned (.bool true) ∧ Below w.heap.size w w' := by
  have U1 := fun w hU => eunit_any k k1 k2 w hU
  have U2 := refunit_any k
  have NO := unit_norm (k % 6) (by omega) (by omega)
  by_cases h : k < 0
  · exact units_core k 0 0 _ _ false (ebeta_below k h) (refbeta_below k h) U1 U2 NO w hU
  · by_cases h2 : 20 < k
    · exact units_core k 0 0 _ _ false (ebeta_above k h h2) (refbeta_above k h h2) U1 U2 NO w hU
    · obtain ⟨K, rfl⟩ := Int.eq_ofNat_of_zero_le (show 0 ≤ k by omega)
      exact units_core K _ _ _ _ true (ebeta_yes K (by omega)) (refbeta_yes K (by omega)) U1 U2 NO w hU
end Go.Proofs.YtpncnpmikhbmnaaDoor
