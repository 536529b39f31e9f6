/-
  What the laws of cells ask of the program at each end: true, in whatever memory where both tables hold what their texts lay.
-/
import Derived.Test.YtnnbdlnginkldabDoorCCell
namespace Go.Proofs.YtnnbdlnginkldabDoor
open Go.RowKit

theorem ok_two : Ok4 12 2 1 := ok4_of (by decide +kernel)
theorem ok_one : Ok4 11 1 0 := ok4_of (by decide +kernel)
theorem ok_none : Ok4 0 0 0 := ok4_of (by decide +kernel)

set_option maxHeartbeats 2000000 in
theorem cawake (w : World) (hT : Tabs w) :
    Calls Tryd.prog 10 #[] w fun e w' => e = .returned (.bool true) ∧ Below w.heap.size w w' := by
  have P1 : Hid (∀ w, Tabs w → Calls Tryd.prog 16 #[.agg #[.int .i64 12, .int .i64 2, .int .i64 1]] w fun e w' => e = .returned (.tuple #[.agg #[.int .i64 11, .int .i64 1, .int .i64 0], .int .i64 0]) ∧ Below w.heap.size w w') := cparent_yes 12 2 1 ok_two (by omega)
  have P2 : Hid (∀ w, Tabs w → Calls Tryd.prog 16 #[.agg #[.int .i64 0, .int .i64 0, .int .i64 0]] w fun e w' => e = .returned (.tuple #[.agg #[.int .i64 0, .int .i64 0, .int .i64 0], .int .i64 3]) ∧ Below w.heap.size w w') := cparent_top 0 0 0 ok_none rfl
  have D1 : Hid (∀ w, Tabs w → Calls Tryd.prog 13 #[.agg #[.int .i64 11, .int .i64 1, .int .i64 0]] w fun e w' => e = .returned (.int .i64 1) ∧ Below w.heap.size w w') := cdigit_yes 11 1 0 ok_one (by omega)
  have hT0 : Hid (Tabs w) := hT
  clear hT
  go_enter Tryd.func10, Tryd.ntmps10
  go_wp2_with fail
  refine (P1.out _ ?_).mono ?_
  · exact hT0.out.below (by go_grown)
  rintro e w1 ⟨rfl, d1⟩
  have c1 : Below w.heap.size w w1 := Below.trans (by go_grown) (d1.mono (by simp; try omega))
  have hB := c1
  clear c1 d1
  go_wp2_with fail
  refine (P2.out _ ?_).mono ?_
  · exact hT0.out.below (belowT hB (by go_grown))
  rintro e w2 ⟨rfl, d2⟩
  have c2 : Below w1.heap.size w1 w2 := Below.trans (by go_grown) (d2.mono (by simp; try omega))
  have p0 : w2.cell? ⟨w1.heap.size, 0, none⟩ = some (.int .i64 11) := keepCell d2 (by go_simp)
  have qp0 := World.block_lt_of_cell? _ _ p0
  have p1 : w2.cell? ⟨w1.heap.size, 1, none⟩ = some (.int .i64 1) := keepCell d2 (by go_simp)
  have p2 : w2.cell? ⟨w1.heap.size, 2, none⟩ = some (.int .i64 0) := keepCell d2 (by go_simp)
  replace hB := belowT hB c2
  clear c2 d2
  go_wp2_with fail
  refine (D1.out _ ?_).mono ?_
  · exact hT0.out.below (belowT hB (by go_grown))
  rintro e w3 ⟨rfl, d3⟩
  have c3 : Below w2.heap.size w2 w3 := Below.trans (by go_grown) (d3.mono (by simp; try omega))
  replace p0 := keepCell c3 p0
  replace qp0 := World.block_lt_of_cell? _ _ p0
  replace p1 := keepCell c3 p1
  replace p2 := keepCell c3 p2
  replace hB := belowT hB c3
  clear c3 d3
  go_wp2
  go_ret
  exact ⟨rfl, hB⟩
end Go.Proofs.YtnnbdlnginkldabDoor
