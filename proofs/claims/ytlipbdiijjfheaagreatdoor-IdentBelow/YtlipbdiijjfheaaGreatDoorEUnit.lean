/-
  What Unit of package eisen tells, for any number of 64 bits, in whatever memory where the package's table holds what its text lays.
-/
import Derived.Test.YtlipbdiijjfheaaGreatDoorNumFloor
import Derived.Test.YtlipbdiijjfheaaGreatDoorLattice
import Derived.Test.YtlipbdiijjfheaaGreatDoorHalves
import Derived.Lib.LaidU8
import Derived.WalkSmall
namespace Go.Proofs.YtlipbdiijjfheaaGreatDoor
open Go.RowKit

def unitCells : Array Value := #[.int .i64 1, .int .i64 0, .int .i64 0, .int .i64 1, .int .i64 (-1), .int .i64 1, .int .i64 (-1), .int .i64 0, .int .i64 0, .int .i64 (-1), .int .i64 1, .int .i64 (-1)]
/-- The table of Units holds what its text lays. -/
def Uni (w : World) : Prop := w.var? Tryz.prog "apiary/eisen.units" = some unitCells
theorem gUni : Tryz.prog.globalNamed "apiary/eisen.units" = some 4 := by kernel_rfl
theorem Uni.cell {w : World} (h : Uni w) (i : Nat) : w.cell? ⟨4, i, none⟩ = unitCells[i]? := World.var?_cell gUni h i
theorem Uni.below {w w' : World} (h : Uni w) (hb : Below w.heap.size w w') : Uni w' :=
  var?_below hb gUni (World.block_lt_of_cell? _ _ (show w.cell? ⟨4, 0, none⟩ = some (.int .i64 1) from h.cell 0)) h

set_option maxHeartbeats 400000 in
theorem eunit_0 (k : Int) (k1 : -9223372036854775808 ≤ k) (k2 : k ≤ 9223372036854775807) (hj : k % 6 = 0) (w : World) (hU : Uni w) :
    Calls Tryz.prog 113 #[.int .i64 k] w fun e w' => e = .returned (.agg #[.int .i64 1, .int .i64 0]) ∧ Below w.heap.size w w' := by
  have FL := floor_any k 6 k1 k2 (by omega) (by omega)
  rw [hj] at FL
  clear hj
  replace FL : Hid _ := FL
  have hU0 : Hid (Uni w) := hU
  clear hU
  go_enter Tryz.func113, Tryz.ntmps113
  go_wp2_with fail
  refine (FL.out _).mono ?_
  rintro e w1 ⟨rfl, hb⟩
  have hb0 : Below w.heap.size w w1 := Below.trans (by go_grown) (hb.mono (by simp; try omega))
  have v0 : w1.cell? ⟨4, 0, none⟩ = some (.int .i64 1) := (hU0.out.below hb0).cell 0
  have v1 : w1.cell? ⟨4, 1, none⟩ = some (.int .i64 0) := (hU0.out.below hb0).cell 1
  obtain ⟨hc, hf⟩ := bcell hb
  have e0 : w1.cell? ⟨w.heap.size, 0, none⟩ = some (.int .i64 0) := by rw [hc _ _ (by simp)]; go_simp
  have e1 : w1.cell? ⟨w.heap.size, 1, none⟩ = some (.int .i64 0) := by rw [hc _ _ (by simp)]; go_simp
  obtain ⟨g0, g1⟩ := two_stores (u := .int .i64 1) (v := .int .i64 0) e0 e1
  go_wp2
  exact bodyPost_ret (v := .agg #[.int .i64 1, .int .i64 0]) (by simp [results, Tryz.results113, go_sem, g0, g1]) rfl ⟨rfl, (hb0.setCell (by simp; try omega) _).setCell (by simp; try omega) _⟩

set_option maxHeartbeats 400000 in
theorem eunit_1 (k : Int) (k1 : -9223372036854775808 ≤ k) (k2 : k ≤ 9223372036854775807) (hj : k % 6 = 1) (w : World) (hU : Uni w) :
    Calls Tryz.prog 113 #[.int .i64 k] w fun e w' => e = .returned (.agg #[.int .i64 0, .int .i64 1]) ∧ Below w.heap.size w w' := by
  have FL := floor_any k 6 k1 k2 (by omega) (by omega)
  rw [hj] at FL
  clear hj
  replace FL : Hid _ := FL
  have hU0 : Hid (Uni w) := hU
  clear hU
  go_enter Tryz.func113, Tryz.ntmps113
  go_wp2_with fail
  refine (FL.out _).mono ?_
  rintro e w1 ⟨rfl, hb⟩
  have hb0 : Below w.heap.size w w1 := Below.trans (by go_grown) (hb.mono (by simp; try omega))
  have v0 : w1.cell? ⟨4, 2, none⟩ = some (.int .i64 0) := (hU0.out.below hb0).cell 2
  have v1 : w1.cell? ⟨4, 3, none⟩ = some (.int .i64 1) := (hU0.out.below hb0).cell 3
  obtain ⟨hc, hf⟩ := bcell hb
  have e0 : w1.cell? ⟨w.heap.size, 0, none⟩ = some (.int .i64 0) := by rw [hc _ _ (by simp)]; go_simp
  have e1 : w1.cell? ⟨w.heap.size, 1, none⟩ = some (.int .i64 0) := by rw [hc _ _ (by simp)]; go_simp
  obtain ⟨g0, g1⟩ := two_stores (u := .int .i64 0) (v := .int .i64 1) e0 e1
  go_wp2
  exact bodyPost_ret (v := .agg #[.int .i64 0, .int .i64 1]) (by simp [results, Tryz.results113, go_sem, g0, g1]) rfl ⟨rfl, (hb0.setCell (by simp; try omega) _).setCell (by simp; try omega) _⟩

set_option maxHeartbeats 400000 in
theorem eunit_2 (k : Int) (k1 : -9223372036854775808 ≤ k) (k2 : k ≤ 9223372036854775807) (hj : k % 6 = 2) (w : World) (hU : Uni w) :
    Calls Tryz.prog 113 #[.int .i64 k] w fun e w' => e = .returned (.agg #[.int .i64 (-1), .int .i64 1]) ∧ Below w.heap.size w w' := by
  have FL := floor_any k 6 k1 k2 (by omega) (by omega)
  rw [hj] at FL
  clear hj
  replace FL : Hid _ := FL
  have hU0 : Hid (Uni w) := hU
  clear hU
  go_enter Tryz.func113, Tryz.ntmps113
  go_wp2_with fail
  refine (FL.out _).mono ?_
  rintro e w1 ⟨rfl, hb⟩
  have hb0 : Below w.heap.size w w1 := Below.trans (by go_grown) (hb.mono (by simp; try omega))
  have v0 : w1.cell? ⟨4, 4, none⟩ = some (.int .i64 (-1)) := (hU0.out.below hb0).cell 4
  have v1 : w1.cell? ⟨4, 5, none⟩ = some (.int .i64 1) := (hU0.out.below hb0).cell 5
  obtain ⟨hc, hf⟩ := bcell hb
  have e0 : w1.cell? ⟨w.heap.size, 0, none⟩ = some (.int .i64 0) := by rw [hc _ _ (by simp)]; go_simp
  have e1 : w1.cell? ⟨w.heap.size, 1, none⟩ = some (.int .i64 0) := by rw [hc _ _ (by simp)]; go_simp
  obtain ⟨g0, g1⟩ := two_stores (u := .int .i64 (-1)) (v := .int .i64 1) e0 e1
  go_wp2
  exact bodyPost_ret (v := .agg #[.int .i64 (-1), .int .i64 1]) (by simp [results, Tryz.results113, go_sem, g0, g1]) rfl ⟨rfl, (hb0.setCell (by simp; try omega) _).setCell (by simp; try omega) _⟩

set_option maxHeartbeats 400000 in
theorem eunit_3 (k : Int) (k1 : -9223372036854775808 ≤ k) (k2 : k ≤ 9223372036854775807) (hj : k % 6 = 3) (w : World) (hU : Uni w) :
    Calls Tryz.prog 113 #[.int .i64 k] w fun e w' => e = .returned (.agg #[.int .i64 (-1), .int .i64 0]) ∧ Below w.heap.size w w' := by
  have FL := floor_any k 6 k1 k2 (by omega) (by omega)
  rw [hj] at FL
  clear hj
  replace FL : Hid _ := FL
  have hU0 : Hid (Uni w) := hU
  clear hU
  go_enter Tryz.func113, Tryz.ntmps113
  go_wp2_with fail
  refine (FL.out _).mono ?_
  rintro e w1 ⟨rfl, hb⟩
  have hb0 : Below w.heap.size w w1 := Below.trans (by go_grown) (hb.mono (by simp; try omega))
  have v0 : w1.cell? ⟨4, 6, none⟩ = some (.int .i64 (-1)) := (hU0.out.below hb0).cell 6
  have v1 : w1.cell? ⟨4, 7, none⟩ = some (.int .i64 0) := (hU0.out.below hb0).cell 7
  obtain ⟨hc, hf⟩ := bcell hb
  have e0 : w1.cell? ⟨w.heap.size, 0, none⟩ = some (.int .i64 0) := by rw [hc _ _ (by simp)]; go_simp
  have e1 : w1.cell? ⟨w.heap.size, 1, none⟩ = some (.int .i64 0) := by rw [hc _ _ (by simp)]; go_simp
  obtain ⟨g0, g1⟩ := two_stores (u := .int .i64 (-1)) (v := .int .i64 0) e0 e1
  go_wp2
  exact bodyPost_ret (v := .agg #[.int .i64 (-1), .int .i64 0]) (by simp [results, Tryz.results113, go_sem, g0, g1]) rfl ⟨rfl, (hb0.setCell (by simp; try omega) _).setCell (by simp; try omega) _⟩

set_option maxHeartbeats 400000 in
theorem eunit_4 (k : Int) (k1 : -9223372036854775808 ≤ k) (k2 : k ≤ 9223372036854775807) (hj : k % 6 = 4) (w : World) (hU : Uni w) :
    Calls Tryz.prog 113 #[.int .i64 k] w fun e w' => e = .returned (.agg #[.int .i64 0, .int .i64 (-1)]) ∧ Below w.heap.size w w' := by
  have FL := floor_any k 6 k1 k2 (by omega) (by omega)
  rw [hj] at FL
  clear hj
  replace FL : Hid _ := FL
  have hU0 : Hid (Uni w) := hU
  clear hU
  go_enter Tryz.func113, Tryz.ntmps113
  go_wp2_with fail
  refine (FL.out _).mono ?_
  rintro e w1 ⟨rfl, hb⟩
  have hb0 : Below w.heap.size w w1 := Below.trans (by go_grown) (hb.mono (by simp; try omega))
  have v0 : w1.cell? ⟨4, 8, none⟩ = some (.int .i64 0) := (hU0.out.below hb0).cell 8
  have v1 : w1.cell? ⟨4, 9, none⟩ = some (.int .i64 (-1)) := (hU0.out.below hb0).cell 9
  obtain ⟨hc, hf⟩ := bcell hb
  have e0 : w1.cell? ⟨w.heap.size, 0, none⟩ = some (.int .i64 0) := by rw [hc _ _ (by simp)]; go_simp
  have e1 : w1.cell? ⟨w.heap.size, 1, none⟩ = some (.int .i64 0) := by rw [hc _ _ (by simp)]; go_simp
  obtain ⟨g0, g1⟩ := two_stores (u := .int .i64 0) (v := .int .i64 (-1)) e0 e1
  go_wp2
  exact bodyPost_ret (v := .agg #[.int .i64 0, .int .i64 (-1)]) (by simp [results, Tryz.results113, go_sem, g0, g1]) rfl ⟨rfl, (hb0.setCell (by simp; try omega) _).setCell (by simp; try omega) _⟩

set_option maxHeartbeats 400000 in
theorem eunit_5 (k : Int) (k1 : -9223372036854775808 ≤ k) (k2 : k ≤ 9223372036854775807) (hj : k % 6 = 5) (w : World) (hU : Uni w) :
    Calls Tryz.prog 113 #[.int .i64 k] w fun e w' => e = .returned (.agg #[.int .i64 1, .int .i64 (-1)]) ∧ Below w.heap.size w w' := by
  have FL := floor_any k 6 k1 k2 (by omega) (by omega)
  rw [hj] at FL
  clear hj
  replace FL : Hid _ := FL
  have hU0 : Hid (Uni w) := hU
  clear hU
  go_enter Tryz.func113, Tryz.ntmps113
  go_wp2_with fail
  refine (FL.out _).mono ?_
  rintro e w1 ⟨rfl, hb⟩
  have hb0 : Below w.heap.size w w1 := Below.trans (by go_grown) (hb.mono (by simp; try omega))
  have v0 : w1.cell? ⟨4, 10, none⟩ = some (.int .i64 1) := (hU0.out.below hb0).cell 10
  have v1 : w1.cell? ⟨4, 11, none⟩ = some (.int .i64 (-1)) := (hU0.out.below hb0).cell 11
  obtain ⟨hc, hf⟩ := bcell hb
  have e0 : w1.cell? ⟨w.heap.size, 0, none⟩ = some (.int .i64 0) := by rw [hc _ _ (by simp)]; go_simp
  have e1 : w1.cell? ⟨w.heap.size, 1, none⟩ = some (.int .i64 0) := by rw [hc _ _ (by simp)]; go_simp
  obtain ⟨g0, g1⟩ := two_stores (u := .int .i64 1) (v := .int .i64 (-1)) e0 e1
  go_wp2
  exact bodyPost_ret (v := .agg #[.int .i64 1, .int .i64 (-1)]) (by simp [results, Tryz.results113, go_sem, g0, g1]) rfl ⟨rfl, (hb0.setCell (by simp; try omega) _).setCell (by simp; try omega) _⟩

theorem eunit_any (k : Int) (k1 : -9223372036854775808 ≤ k) (k2 : k ≤ 9223372036854775807) (w : World) (hU : Uni w) :
    Calls Tryz.prog 113 #[.int .i64 k] w fun e w' => e = .returned (.agg #[.int .i64 (unitA (k % 6)), .int .i64 (unitB (k % 6))]) ∧ Below w.heap.size w w' := by
  have hc : k % 6 = 0 ∨ k % 6 = 1 ∨ k % 6 = 2 ∨ k % 6 = 3 ∨ k % 6 = 4 ∨ k % 6 = 5 := by omega
  rcases hc with hc | hc | hc | hc | hc | hc
  · rw [hc]; exact eunit_0 k k1 k2 hc w hU
  · rw [hc]; exact eunit_1 k k1 k2 hc w hU
  · rw [hc]; exact eunit_2 k k1 k2 hc w hU
  · rw [hc]; exact eunit_3 k k1 k2 hc w hU
  · rw [hc]; exact eunit_4 k k1 k2 hc w hU
  · rw [hc]; exact eunit_5 k k1 k2 hc w hU
end Go.Proofs.YtlipbdiijjfheaaGreatDoor
