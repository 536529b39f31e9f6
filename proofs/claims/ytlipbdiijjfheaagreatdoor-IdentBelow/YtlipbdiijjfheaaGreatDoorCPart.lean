/-
  What package cell's isSize, isPart, isBasePart, part and child tell, for any numbers within the bounds written, in whatever memory where the table of Units holds what its text lays.
-/
import Derived.Test.YtlipbdiijjfheaaGreatDoorCellMath
import Derived.Test.YtlipbdiijjfheaaGreatDoorEBeta
import Derived.Test.YtlipbdiijjfheaaGreatDoorEUnit
import Derived.Test.YtlipbdiijjfheaaGreatDoorESmall
import Derived.Deep.CutRange
import Derived.Deep.RegionHeld3
namespace Go.Proofs.YtlipbdiijjfheaaGreatDoor
open Go.RowKit

set_option maxHeartbeats 400000 in
theorem csize_yes (r : Int) (h1 : 0 ≤ r) (h2 : r ≤ 12) (w : World) :
    Calls Tryz.prog 75 #[.int .i64 r] w fun e w' => e = .returned (.bool true) ∧ w' = w := by
  go_enter Tryz.func75, Tryz.ntmps75
  go_wp2
  go_ret
  exact ⟨rfl, rfl⟩
set_option maxHeartbeats 400000 in
theorem csize_no1 (r : Int) (h1 : decide (0 ≤ r) = false) (w : World) :
    Calls Tryz.prog 75 #[.int .i64 r] w fun e w' => e = .returned (.bool false) ∧ w' = w := by
  go_enter Tryz.func75, Tryz.ntmps75
  go_wp2
  go_ret
  exact ⟨rfl, rfl⟩
set_option maxHeartbeats 400000 in
theorem csize_no2 (r : Int) (h1 : 0 ≤ r) (h2 : decide (r ≤ 12) = false) (w : World) :
    Calls Tryz.prog 75 #[.int .i64 r] w fun e w' => e = .returned (.bool false) ∧ w' = w := by
  go_enter Tryz.func75, Tryz.ntmps75
  go_wp2
  go_ret
  exact ⟨rfl, rfl⟩
theorem csize_no (r : Int) (h : ¬ (0 ≤ r ∧ r ≤ 12)) (w : World) :
    Calls Tryz.prog 75 #[.int .i64 r] w fun e w' => e = .returned (.bool false) ∧ w' = w := by
  by_cases h1 : 0 ≤ r
  · exact csize_no2 r h1 (df fun h2 => h ⟨h1, h2⟩) w
  · exact csize_no1 r (df h1) w

set_option maxHeartbeats 400000 in
theorem cispart_yes (n : Int) (h1 : -1073741824 ≤ n) (h2 : n ≤ 1073741824) (w : World) :
    Calls Tryz.prog 76 #[.int .i64 n] w fun e w' => e = .returned (.bool true) ∧ w' = w := by
  go_enter Tryz.func76, Tryz.ntmps76
  go_wp2
  go_ret
  exact ⟨rfl, rfl⟩
set_option maxHeartbeats 400000 in
theorem cispart_no1 (n : Int) (h1 : decide (-1073741824 ≤ n) = false) (w : World) :
    Calls Tryz.prog 76 #[.int .i64 n] w fun e w' => e = .returned (.bool false) ∧ w' = w := by
  go_enter Tryz.func76, Tryz.ntmps76
  go_wp2
  go_ret
  exact ⟨rfl, rfl⟩
set_option maxHeartbeats 400000 in
theorem cispart_no2 (n : Int) (h1 : -1073741824 ≤ n) (h2 : decide (n ≤ 1073741824) = false) (w : World) :
    Calls Tryz.prog 76 #[.int .i64 n] w fun e w' => e = .returned (.bool false) ∧ w' = w := by
  go_enter Tryz.func76, Tryz.ntmps76
  go_wp2
  go_ret
  exact ⟨rfl, rfl⟩
theorem cispart_no (n : Int) (h : ¬ In30c n) (w : World) :
    Calls Tryz.prog 76 #[.int .i64 n] w fun e w' => e = .returned (.bool false) ∧ w' = w := by
  by_cases h1 : -1073741824 ≤ n
  · exact cispart_no2 n h1 (df fun h2 => h ⟨h1, h2⟩) w
  · exact cispart_no1 n (df h1) w

set_option maxHeartbeats 400000 in
theorem cisbase_yes (n : Int) (h1 : -512 ≤ n) (h2 : n ≤ 511) (w : World) :
    Calls Tryz.prog 78 #[.int .i64 n] w fun e w' => e = .returned (.bool true) ∧ w' = w := by
  go_enter Tryz.func78, Tryz.ntmps78
  go_wp2
  go_ret
  exact ⟨rfl, rfl⟩
set_option maxHeartbeats 400000 in
theorem cisbase_no1 (n : Int) (h1 : decide (-512 ≤ n) = false) (w : World) :
    Calls Tryz.prog 78 #[.int .i64 n] w fun e w' => e = .returned (.bool false) ∧ w' = w := by
  go_enter Tryz.func78, Tryz.ntmps78
  go_wp2
  go_ret
  exact ⟨rfl, rfl⟩
set_option maxHeartbeats 400000 in
theorem cisbase_no2 (n : Int) (h1 : -512 ≤ n) (h2 : decide (n ≤ 511) = false) (w : World) :
    Calls Tryz.prog 78 #[.int .i64 n] w fun e w' => e = .returned (.bool false) ∧ w' = w := by
  go_enter Tryz.func78, Tryz.ntmps78
  go_wp2
  go_ret
  exact ⟨rfl, rfl⟩
theorem cisbase_no (n : Int) (h : ¬ InBase n) (w : World) :
    Calls Tryz.prog 78 #[.int .i64 n] w fun e w' => e = .returned (.bool false) ∧ w' = w := by
  by_cases h1 : -512 ≤ n
  · exact cisbase_no2 n h1 (df fun h2 => h ⟨h1, h2⟩) w
  · exact cisbase_no1 n (df h1) w

set_option maxHeartbeats 1000000 in
theorem cpart_core (d X Y : Int) (hd : (d == 0) = false) (d1 : 1 ≤ d) (d2 : d ≤ 6)
    (UN : ∀ w, Uni w → Calls Tryz.prog 113 #[.int .i64 (d - 1)] w fun e w' => e = .returned (.agg #[.int .i64 X, .int .i64 Y]) ∧ Below w.heap.size w w') (w : World) (hU : Uni w) :
    Calls Tryz.prog 82 #[.int .i64 d] w fun e w' => e = .returned (.agg #[.int .i64 X, .int .i64 Y]) ∧ Below w.heap.size w w' := by
  replace UN : Hid _ := UN
  have hU0 : Hid (Uni w) := hU
  clear hU
  go_enter Tryz.func82, Tryz.ntmps82
  go_wp2_with fail
  refine (UN.out _ ?_).mono ?_
  · exact hU0.out.below (by go_grown)
  rintro e w1 ⟨rfl, d1⟩
  have c1 : Below w.heap.size w w1 := Below.trans (by go_grown) (d1.mono (by simp; try omega))
  have r0 : w1.cell? ⟨w.heap.size, 0, none⟩ = some (.int .i64 0) := keepCell d1 (by go_simp)
  have fr0 : w1.frozen? ⟨w.heap.size, 0, none⟩ = false := keepFrozen (v := .int .i64 0) d1 (by go_simp) (by go_simp)
  have qr0 := World.block_lt_of_cell? _ _ r0
  have r1 : w1.cell? ⟨w.heap.size, 1, none⟩ = some (.int .i64 0) := keepCell d1 (by go_simp)
  have fr1 : w1.frozen? ⟨w.heap.size, 1, none⟩ = false := keepFrozen (v := .int .i64 0) d1 (by go_simp) (by go_simp)
  have hB := c1
  clear c1 d1
  obtain ⟨g0, g1⟩ := two_stores (u := .int .i64 X) (v := .int .i64 Y) r0 r1
  go_wp2
  exact bodyPost_ret (v := .agg #[.int .i64 X, .int .i64 Y]) (by simp [results, Tryz.results82, go_sem, g0, g1]) rfl ⟨rfl, (hB.setCell (by simp) _).setCell (by simp) _⟩
set_option maxHeartbeats 400000 in
theorem cpart_none (w : World) :
    Calls Tryz.prog 82 #[.int .i64 0] w fun e w' => e = .returned (.agg #[.int .i64 0, .int .i64 0]) ∧ Below w.heap.size w w' := by
  go_enter Tryz.func82, Tryz.ntmps82
  go_wp2
  exact bodyPost_ret (v := .agg #[.int .i64 0, .int .i64 0]) (by simp [results, Tryz.results82, go_sem]) rfl ⟨rfl, by go_grown⟩
/-- PART: what the digit tells. -/
theorem cpart_any (d : Int) (h0 : 0 ≤ d) (h1 : d ≤ 6) (w : World) (hU : Uni w) :
    Calls Tryz.prog 82 #[.int .i64 d] w fun e w' => e = .returned (.agg #[.int .i64 (ptA d), .int .i64 (ptB d)]) ∧ Below w.heap.size w w' := by
  rcases seven_cases h0 h1 with rfl | rfl | rfl | rfl | rfl | rfl | rfl
  · exact cpart_none w
  · exact cpart_core 1 1 0 rfl (by omega) (by omega) (eunit_0 0 (by omega) (by omega) rfl) w hU
  · exact cpart_core 2 0 1 rfl (by omega) (by omega) (eunit_1 1 (by omega) (by omega) rfl) w hU
  · exact cpart_core 3 (-1) 1 rfl (by omega) (by omega) (eunit_2 2 (by omega) (by omega) rfl) w hU
  · exact cpart_core 4 (-1) 0 rfl (by omega) (by omega) (eunit_3 3 (by omega) (by omega) rfl) w hU
  · exact cpart_core 5 0 (-1) rfl (by omega) (by omega) (eunit_4 4 (by omega) (by omega) rfl) w hU
  · exact cpart_core 6 1 (-1) rfl (by omega) (by omega) (eunit_5 5 (by omega) (by omega) rfl) w hU
end Go.Proofs.YtlipbdiijjfheaaGreatDoor
