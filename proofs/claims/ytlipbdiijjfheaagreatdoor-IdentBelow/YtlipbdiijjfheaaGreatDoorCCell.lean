/-
  What package cell's Parent, Up, Base, Digit and Of tell, for any numbers, in whatever memory where both tables hold what their texts lay.
-/
import Derived.Test.YtlipbdiijjfheaaGreatDoorCRaised
namespace Go.Proofs.YtlipbdiijjfheaaGreatDoor
open Go.RowKit

set_option maxHeartbeats 1000000 in
theorem cparent_core (r a b P Q : Int) (r1 : 0 < r) (r2 : r ≤ 12) (hr : (r == 0) = false) (h : Ok4 r a b)
    (RA : ∀ w, Tabs w → Calls Tryz.prog 77 #[.agg #[.int .i64 r, .int .i64 a, .int .i64 b], .int .i64 (r - 1)] w fun e w' => e = .returned (.agg #[.int .i64 (r - 1), .int .i64 P, .int .i64 Q]) ∧ Below w.heap.size w w') (w : World) (hT : Tabs w) :
    Calls Tryz.prog 67 #[.agg #[.int .i64 r, .int .i64 a, .int .i64 b]] w fun e w' => e = .returned (.tuple #[.agg #[.int .i64 (r - 1), .int .i64 (P), .int .i64 (Q)], .int .i64 0]) ∧ Below w.heap.size w w' := by
  have OK : Hid (∀ w, Tabs w → Calls Tryz.prog 53 #[.agg #[.int .i64 r, .int .i64 a, .int .i64 b]] w fun e w' => e = .returned (.bool true) ∧ Below w.heap.size w w') := fun w hT => cok_yes r a b h w hT
  replace RA : Hid _ := RA
  have hT0 : Hid (Tabs w) := hT
  clear hT h
  go_enter Tryz.func67, Tryz.ntmps67
  go_wp2_with fail
  refine (OK.out _ ?_).mono ?_
  · exact hT0.out.below (by go_grown)
  rintro e w1 ⟨rfl, d1⟩
  have c1 : Below w.heap.size w w1 := Below.trans (by go_grown) (d1.mono (by simp; try omega))
  have z0 : w1.cell? ⟨w.heap.size, 0, none⟩ = some (.int .i64 r) := keepCell d1 (by go_simp)
  have qz0 := World.block_lt_of_cell? _ _ z0
  have z1 : w1.cell? ⟨w.heap.size, 1, none⟩ = some (.int .i64 a) := keepCell d1 (by go_simp)
  have z2 : w1.cell? ⟨w.heap.size, 2, none⟩ = some (.int .i64 b) := keepCell d1 (by go_simp)
  have r0 : w1.cell? ⟨w.heap.size + 1, 0, none⟩ = some (.int .i64 0) := keepCell d1 (by go_simp)
  have fr0 : w1.frozen? ⟨w.heap.size + 1, 0, none⟩ = false := keepFrozen (v := .int .i64 0) d1 (by go_simp) (by go_simp)
  have qr0 := World.block_lt_of_cell? _ _ r0
  have r1 : w1.cell? ⟨w.heap.size + 1, 1, none⟩ = some (.int .i64 0) := keepCell d1 (by go_simp)
  have fr1 : w1.frozen? ⟨w.heap.size + 1, 1, none⟩ = false := keepFrozen (v := .int .i64 0) d1 (by go_simp) (by go_simp)
  have r2 : w1.cell? ⟨w.heap.size + 1, 2, none⟩ = some (.int .i64 0) := keepCell d1 (by go_simp)
  have fr2 : w1.frozen? ⟨w.heap.size + 1, 2, none⟩ = false := keepFrozen (v := .int .i64 0) d1 (by go_simp) (by go_simp)
  have hB := c1
  clear c1 d1
  go_wp2_with fail
  refine (RA.out _ ?_).mono ?_
  · exact hT0.out.below hB
  rintro e w2 ⟨rfl, d2⟩
  have c2 : Below w1.heap.size w1 w2 := Below.trans (by go_grown) (d2.mono (by simp; try omega))
  replace z0 := keepCell c2 z0
  replace qz0 := World.block_lt_of_cell? _ _ z0
  replace z1 := keepCell c2 z1
  replace z2 := keepCell c2 z2
  replace fr0 := keepFrozen c2 r0 fr0
  replace r0 := keepCell c2 r0
  replace qr0 := World.block_lt_of_cell? _ _ r0
  replace fr1 := keepFrozen c2 r1 fr1
  replace r1 := keepCell c2 r1
  replace fr2 := keepFrozen c2 r2 fr2
  replace r2 := keepCell c2 r2
  replace hB := belowT hB c2
  clear c2 d2
  obtain ⟨g0, g1, g2⟩ := three_stores (u0 := .int .i64 (r - 1)) (u1 := .int .i64 (P)) (u2 := .int .i64 (Q)) r0 r1 r2
  go_wp2
  exact bodyPost_ret (v := .tuple #[.agg #[.int .i64 (r - 1), .int .i64 (P), .int .i64 (Q)], .int .i64 0]) (by simp [results, Tryz.results67, go_sem, g0, g1, g2]) rfl ⟨rfl, ((hB.setCell (by simp) _).setCell (by simp) _).setCell (by simp) _⟩
set_option maxHeartbeats 1000000 in
theorem cparent_bad (r a b : Int) (h : ¬ Ok4 r a b) (w : World) (hT : Tabs w) :
    Calls Tryz.prog 67 #[.agg #[.int .i64 r, .int .i64 a, .int .i64 b]] w fun e w' => e = .returned (.tuple #[.agg #[.int .i64 (0), .int .i64 (0), .int .i64 (0)], .int .i64 2]) ∧ Below w.heap.size w w' := by
  have OK : Hid (∀ w, Tabs w → Calls Tryz.prog 53 #[.agg #[.int .i64 r, .int .i64 a, .int .i64 b]] w fun e w' => e = .returned (.bool false) ∧ Below w.heap.size w w') := fun w hT => cok_no r a b h w hT
  have hT0 : Hid (Tabs w) := hT
  clear hT h
  go_enter Tryz.func67, Tryz.ntmps67
  go_wp2_with fail
  refine (OK.out _ ?_).mono ?_
  · exact hT0.out.below (by go_grown)
  rintro e w1 ⟨rfl, d1⟩
  have c1 : Below w.heap.size w w1 := Below.trans (by go_grown) (d1.mono (by simp; try omega))
  have z0 : w1.cell? ⟨w.heap.size, 0, none⟩ = some (.int .i64 r) := keepCell d1 (by go_simp)
  have qz0 := World.block_lt_of_cell? _ _ z0
  have z1 : w1.cell? ⟨w.heap.size, 1, none⟩ = some (.int .i64 a) := keepCell d1 (by go_simp)
  have z2 : w1.cell? ⟨w.heap.size, 2, none⟩ = some (.int .i64 b) := keepCell d1 (by go_simp)
  have r0 : w1.cell? ⟨w.heap.size + 1, 0, none⟩ = some (.int .i64 0) := keepCell d1 (by go_simp)
  have fr0 : w1.frozen? ⟨w.heap.size + 1, 0, none⟩ = false := keepFrozen (v := .int .i64 0) d1 (by go_simp) (by go_simp)
  have qr0 := World.block_lt_of_cell? _ _ r0
  have r1 : w1.cell? ⟨w.heap.size + 1, 1, none⟩ = some (.int .i64 0) := keepCell d1 (by go_simp)
  have fr1 : w1.frozen? ⟨w.heap.size + 1, 1, none⟩ = false := keepFrozen (v := .int .i64 0) d1 (by go_simp) (by go_simp)
  have r2 : w1.cell? ⟨w.heap.size + 1, 2, none⟩ = some (.int .i64 0) := keepCell d1 (by go_simp)
  have fr2 : w1.frozen? ⟨w.heap.size + 1, 2, none⟩ = false := keepFrozen (v := .int .i64 0) d1 (by go_simp) (by go_simp)
  have hB := c1
  clear c1 d1
  obtain ⟨g0, g1, g2⟩ := three_stores (u0 := .int .i64 (0)) (u1 := .int .i64 (0)) (u2 := .int .i64 (0)) r0 r1 r2
  go_wp2
  exact bodyPost_ret (v := .tuple #[.agg #[.int .i64 (0), .int .i64 (0), .int .i64 (0)], .int .i64 2]) (by simp [results, Tryz.results67, go_sem, g0, g1, g2]) rfl ⟨rfl, ((hB.setCell (by simp) _).setCell (by simp) _).setCell (by simp) _⟩
set_option maxHeartbeats 1000000 in
theorem cparent_top (r a b : Int) (h : Ok4 r a b) (hr : (r == 0) = true) (w : World) (hT : Tabs w) :
    Calls Tryz.prog 67 #[.agg #[.int .i64 r, .int .i64 a, .int .i64 b]] w fun e w' => e = .returned (.tuple #[.agg #[.int .i64 (0), .int .i64 (0), .int .i64 (0)], .int .i64 3]) ∧ Below w.heap.size w w' := by
  have OK : Hid (∀ w, Tabs w → Calls Tryz.prog 53 #[.agg #[.int .i64 r, .int .i64 a, .int .i64 b]] w fun e w' => e = .returned (.bool true) ∧ Below w.heap.size w w') := fun w hT => cok_yes r a b h w hT
  have hT0 : Hid (Tabs w) := hT
  clear hT h
  go_enter Tryz.func67, Tryz.ntmps67
  go_wp2_with fail
  refine (OK.out _ ?_).mono ?_
  · exact hT0.out.below (by go_grown)
  rintro e w1 ⟨rfl, d1⟩
  have c1 : Below w.heap.size w w1 := Below.trans (by go_grown) (d1.mono (by simp; try omega))
  have z0 : w1.cell? ⟨w.heap.size, 0, none⟩ = some (.int .i64 r) := keepCell d1 (by go_simp)
  have qz0 := World.block_lt_of_cell? _ _ z0
  have z1 : w1.cell? ⟨w.heap.size, 1, none⟩ = some (.int .i64 a) := keepCell d1 (by go_simp)
  have z2 : w1.cell? ⟨w.heap.size, 2, none⟩ = some (.int .i64 b) := keepCell d1 (by go_simp)
  have r0 : w1.cell? ⟨w.heap.size + 1, 0, none⟩ = some (.int .i64 0) := keepCell d1 (by go_simp)
  have fr0 : w1.frozen? ⟨w.heap.size + 1, 0, none⟩ = false := keepFrozen (v := .int .i64 0) d1 (by go_simp) (by go_simp)
  have qr0 := World.block_lt_of_cell? _ _ r0
  have r1 : w1.cell? ⟨w.heap.size + 1, 1, none⟩ = some (.int .i64 0) := keepCell d1 (by go_simp)
  have fr1 : w1.frozen? ⟨w.heap.size + 1, 1, none⟩ = false := keepFrozen (v := .int .i64 0) d1 (by go_simp) (by go_simp)
  have r2 : w1.cell? ⟨w.heap.size + 1, 2, none⟩ = some (.int .i64 0) := keepCell d1 (by go_simp)
  have fr2 : w1.frozen? ⟨w.heap.size + 1, 2, none⟩ = false := keepFrozen (v := .int .i64 0) d1 (by go_simp) (by go_simp)
  have hB := c1
  clear c1 d1
  obtain ⟨g0, g1, g2⟩ := three_stores (u0 := .int .i64 (0)) (u1 := .int .i64 (0)) (u2 := .int .i64 (0)) r0 r1 r2
  go_wp2
  exact bodyPost_ret (v := .tuple #[.agg #[.int .i64 (0), .int .i64 (0), .int .i64 (0)], .int .i64 3]) (by simp [results, Tryz.results67, go_sem, g0, g1, g2]) rfl ⟨rfl, ((hB.setCell (by simp) _).setCell (by simp) _).setCell (by simp) _⟩
/-- PARENT: of a cell that may be and is none of the coarsest. -/
theorem cparent_yes (r a b : Int) (h : Ok4 r a b) (hr : 0 < r) (w : World) (hT : Tabs w) :
    Calls Tryz.prog 67 #[.agg #[.int .i64 r, .int .i64 a, .int .i64 b]] w fun e w' => e = .returned (.tuple #[.agg #[.int .i64 (r - 1), .int .i64 (parA a b), .int .i64 (parB a b)], .int .i64 0]) ∧ Below w.heap.size w w' :=
  cparent_core r a b _ _ hr h.2.1 (by simp; omega) h (craised_any r a b (r - 1) 1 (by omega) (by omega) h.2.1 h.2.2.1 h.2.2.2.1) w hT
set_option maxHeartbeats 1000000 in
theorem cupto_core (r a b t P Q : Int) (t0 : 0 ≤ t) (t1 : t ≤ r) (h : Ok4 r a b)
    (RA : ∀ w, Tabs w → Calls Tryz.prog 77 #[.agg #[.int .i64 r, .int .i64 a, .int .i64 b], .int .i64 t] w fun e w' => e = .returned (.agg #[.int .i64 t, .int .i64 P, .int .i64 Q]) ∧ Below w.heap.size w w') (w : World) (hT : Tabs w) :
    Calls Tryz.prog 66 #[.agg #[.int .i64 r, .int .i64 a, .int .i64 b], .int .i64 t] w fun e w' => e = .returned (.tuple #[.agg #[.int .i64 (t), .int .i64 (P), .int .i64 (Q)], .int .i64 0]) ∧ Below w.heap.size w w' := by
  have OK : Hid (∀ w, Tabs w → Calls Tryz.prog 53 #[.agg #[.int .i64 r, .int .i64 a, .int .i64 b]] w fun e w' => e = .returned (.bool true) ∧ Below w.heap.size w w') := fun w hT => cok_yes r a b h w hT
  replace RA : Hid _ := RA
  have q0 : decide (t < 0) = false := df (by omega)
  have q1 : decide (r < t) = false := df (by omega)
  have hT0 : Hid (Tabs w) := hT
  clear hT h
  go_enter Tryz.func66, Tryz.ntmps66
  go_wp2_with fail
  refine (OK.out _ ?_).mono ?_
  · exact hT0.out.below (by go_grown)
  rintro e w1 ⟨rfl, d1⟩
  have c1 : Below w.heap.size w w1 := Below.trans (by go_grown) (d1.mono (by simp; try omega))
  have z0 : w1.cell? ⟨w.heap.size, 0, none⟩ = some (.int .i64 r) := keepCell d1 (by go_simp)
  have qz0 := World.block_lt_of_cell? _ _ z0
  have z1 : w1.cell? ⟨w.heap.size, 1, none⟩ = some (.int .i64 a) := keepCell d1 (by go_simp)
  have z2 : w1.cell? ⟨w.heap.size, 2, none⟩ = some (.int .i64 b) := keepCell d1 (by go_simp)
  have r0 : w1.cell? ⟨w.heap.size + 1, 0, none⟩ = some (.int .i64 0) := keepCell d1 (by go_simp)
  have fr0 : w1.frozen? ⟨w.heap.size + 1, 0, none⟩ = false := keepFrozen (v := .int .i64 0) d1 (by go_simp) (by go_simp)
  have qr0 := World.block_lt_of_cell? _ _ r0
  have r1 : w1.cell? ⟨w.heap.size + 1, 1, none⟩ = some (.int .i64 0) := keepCell d1 (by go_simp)
  have fr1 : w1.frozen? ⟨w.heap.size + 1, 1, none⟩ = false := keepFrozen (v := .int .i64 0) d1 (by go_simp) (by go_simp)
  have r2 : w1.cell? ⟨w.heap.size + 1, 2, none⟩ = some (.int .i64 0) := keepCell d1 (by go_simp)
  have fr2 : w1.frozen? ⟨w.heap.size + 1, 2, none⟩ = false := keepFrozen (v := .int .i64 0) d1 (by go_simp) (by go_simp)
  have hB := c1
  clear c1 d1
  go_wp2_with fail
  refine (RA.out _ ?_).mono ?_
  · exact hT0.out.below hB
  rintro e w2 ⟨rfl, d2⟩
  have c2 : Below w1.heap.size w1 w2 := Below.trans (by go_grown) (d2.mono (by simp; try omega))
  replace z0 := keepCell c2 z0
  replace qz0 := World.block_lt_of_cell? _ _ z0
  replace z1 := keepCell c2 z1
  replace z2 := keepCell c2 z2
  replace fr0 := keepFrozen c2 r0 fr0
  replace r0 := keepCell c2 r0
  replace qr0 := World.block_lt_of_cell? _ _ r0
  replace fr1 := keepFrozen c2 r1 fr1
  replace r1 := keepCell c2 r1
  replace fr2 := keepFrozen c2 r2 fr2
  replace r2 := keepCell c2 r2
  replace hB := belowT hB c2
  clear c2 d2
  obtain ⟨g0, g1, g2⟩ := three_stores (u0 := .int .i64 (t)) (u1 := .int .i64 (P)) (u2 := .int .i64 (Q)) r0 r1 r2
  go_wp2
  exact bodyPost_ret (v := .tuple #[.agg #[.int .i64 (t), .int .i64 (P), .int .i64 (Q)], .int .i64 0]) (by simp [results, Tryz.results66, go_sem, g0, g1, g2]) rfl ⟨rfl, ((hB.setCell (by simp) _).setCell (by simp) _).setCell (by simp) _⟩
set_option maxHeartbeats 1000000 in
theorem cupto_bad (r a b t : Int) (h : ¬ Ok4 r a b) (w : World) (hT : Tabs w) :
    Calls Tryz.prog 66 #[.agg #[.int .i64 r, .int .i64 a, .int .i64 b], .int .i64 t] w fun e w' => e = .returned (.tuple #[.agg #[.int .i64 (0), .int .i64 (0), .int .i64 (0)], .int .i64 2]) ∧ Below w.heap.size w w' := by
  have OK : Hid (∀ w, Tabs w → Calls Tryz.prog 53 #[.agg #[.int .i64 r, .int .i64 a, .int .i64 b]] w fun e w' => e = .returned (.bool false) ∧ Below w.heap.size w w') := fun w hT => cok_no r a b h w hT
  have hT0 : Hid (Tabs w) := hT
  clear hT h
  go_enter Tryz.func66, Tryz.ntmps66
  go_wp2_with fail
  refine (OK.out _ ?_).mono ?_
  · exact hT0.out.below (by go_grown)
  rintro e w1 ⟨rfl, d1⟩
  have c1 : Below w.heap.size w w1 := Below.trans (by go_grown) (d1.mono (by simp; try omega))
  have z0 : w1.cell? ⟨w.heap.size, 0, none⟩ = some (.int .i64 r) := keepCell d1 (by go_simp)
  have qz0 := World.block_lt_of_cell? _ _ z0
  have z1 : w1.cell? ⟨w.heap.size, 1, none⟩ = some (.int .i64 a) := keepCell d1 (by go_simp)
  have z2 : w1.cell? ⟨w.heap.size, 2, none⟩ = some (.int .i64 b) := keepCell d1 (by go_simp)
  have r0 : w1.cell? ⟨w.heap.size + 1, 0, none⟩ = some (.int .i64 0) := keepCell d1 (by go_simp)
  have fr0 : w1.frozen? ⟨w.heap.size + 1, 0, none⟩ = false := keepFrozen (v := .int .i64 0) d1 (by go_simp) (by go_simp)
  have qr0 := World.block_lt_of_cell? _ _ r0
  have r1 : w1.cell? ⟨w.heap.size + 1, 1, none⟩ = some (.int .i64 0) := keepCell d1 (by go_simp)
  have fr1 : w1.frozen? ⟨w.heap.size + 1, 1, none⟩ = false := keepFrozen (v := .int .i64 0) d1 (by go_simp) (by go_simp)
  have r2 : w1.cell? ⟨w.heap.size + 1, 2, none⟩ = some (.int .i64 0) := keepCell d1 (by go_simp)
  have fr2 : w1.frozen? ⟨w.heap.size + 1, 2, none⟩ = false := keepFrozen (v := .int .i64 0) d1 (by go_simp) (by go_simp)
  have hB := c1
  clear c1 d1
  obtain ⟨g0, g1, g2⟩ := three_stores (u0 := .int .i64 (0)) (u1 := .int .i64 (0)) (u2 := .int .i64 (0)) r0 r1 r2
  go_wp2
  exact bodyPost_ret (v := .tuple #[.agg #[.int .i64 (0), .int .i64 (0), .int .i64 (0)], .int .i64 2]) (by simp [results, Tryz.results66, go_sem, g0, g1, g2]) rfl ⟨rfl, ((hB.setCell (by simp) _).setCell (by simp) _).setCell (by simp) _⟩
set_option maxHeartbeats 1000000 in
theorem cupto_low (r a b t : Int) (h : Ok4 r a b) (q : t < 0) (w : World) (hT : Tabs w) :
    Calls Tryz.prog 66 #[.agg #[.int .i64 r, .int .i64 a, .int .i64 b], .int .i64 t] w fun e w' => e = .returned (.tuple #[.agg #[.int .i64 (0), .int .i64 (0), .int .i64 (0)], .int .i64 1]) ∧ Below w.heap.size w w' := by
  have OK : Hid (∀ w, Tabs w → Calls Tryz.prog 53 #[.agg #[.int .i64 r, .int .i64 a, .int .i64 b]] w fun e w' => e = .returned (.bool true) ∧ Below w.heap.size w w') := fun w hT => cok_yes r a b h w hT
  have hT0 : Hid (Tabs w) := hT
  clear hT h
  go_enter Tryz.func66, Tryz.ntmps66
  go_wp2_with fail
  refine (OK.out _ ?_).mono ?_
  · exact hT0.out.below (by go_grown)
  rintro e w1 ⟨rfl, d1⟩
  have c1 : Below w.heap.size w w1 := Below.trans (by go_grown) (d1.mono (by simp; try omega))
  have z0 : w1.cell? ⟨w.heap.size, 0, none⟩ = some (.int .i64 r) := keepCell d1 (by go_simp)
  have qz0 := World.block_lt_of_cell? _ _ z0
  have z1 : w1.cell? ⟨w.heap.size, 1, none⟩ = some (.int .i64 a) := keepCell d1 (by go_simp)
  have z2 : w1.cell? ⟨w.heap.size, 2, none⟩ = some (.int .i64 b) := keepCell d1 (by go_simp)
  have r0 : w1.cell? ⟨w.heap.size + 1, 0, none⟩ = some (.int .i64 0) := keepCell d1 (by go_simp)
  have fr0 : w1.frozen? ⟨w.heap.size + 1, 0, none⟩ = false := keepFrozen (v := .int .i64 0) d1 (by go_simp) (by go_simp)
  have qr0 := World.block_lt_of_cell? _ _ r0
  have r1 : w1.cell? ⟨w.heap.size + 1, 1, none⟩ = some (.int .i64 0) := keepCell d1 (by go_simp)
  have fr1 : w1.frozen? ⟨w.heap.size + 1, 1, none⟩ = false := keepFrozen (v := .int .i64 0) d1 (by go_simp) (by go_simp)
  have r2 : w1.cell? ⟨w.heap.size + 1, 2, none⟩ = some (.int .i64 0) := keepCell d1 (by go_simp)
  have fr2 : w1.frozen? ⟨w.heap.size + 1, 2, none⟩ = false := keepFrozen (v := .int .i64 0) d1 (by go_simp) (by go_simp)
  have hB := c1
  clear c1 d1
  obtain ⟨g0, g1, g2⟩ := three_stores (u0 := .int .i64 (0)) (u1 := .int .i64 (0)) (u2 := .int .i64 (0)) r0 r1 r2
  go_wp2
  exact bodyPost_ret (v := .tuple #[.agg #[.int .i64 (0), .int .i64 (0), .int .i64 (0)], .int .i64 1]) (by simp [results, Tryz.results66, go_sem, g0, g1, g2]) rfl ⟨rfl, ((hB.setCell (by simp) _).setCell (by simp) _).setCell (by simp) _⟩
set_option maxHeartbeats 1000000 in
theorem cupto_high (r a b t : Int) (h : Ok4 r a b) (q0 : decide (t < 0) = false) (q : r < t) (w : World) (hT : Tabs w) :
    Calls Tryz.prog 66 #[.agg #[.int .i64 r, .int .i64 a, .int .i64 b], .int .i64 t] w fun e w' => e = .returned (.tuple #[.agg #[.int .i64 (0), .int .i64 (0), .int .i64 (0)], .int .i64 1]) ∧ Below w.heap.size w w' := by
  have OK : Hid (∀ w, Tabs w → Calls Tryz.prog 53 #[.agg #[.int .i64 r, .int .i64 a, .int .i64 b]] w fun e w' => e = .returned (.bool true) ∧ Below w.heap.size w w') := fun w hT => cok_yes r a b h w hT
  have hT0 : Hid (Tabs w) := hT
  clear hT h
  go_enter Tryz.func66, Tryz.ntmps66
  go_wp2_with fail
  refine (OK.out _ ?_).mono ?_
  · exact hT0.out.below (by go_grown)
  rintro e w1 ⟨rfl, d1⟩
  have c1 : Below w.heap.size w w1 := Below.trans (by go_grown) (d1.mono (by simp; try omega))
  have z0 : w1.cell? ⟨w.heap.size, 0, none⟩ = some (.int .i64 r) := keepCell d1 (by go_simp)
  have qz0 := World.block_lt_of_cell? _ _ z0
  have z1 : w1.cell? ⟨w.heap.size, 1, none⟩ = some (.int .i64 a) := keepCell d1 (by go_simp)
  have z2 : w1.cell? ⟨w.heap.size, 2, none⟩ = some (.int .i64 b) := keepCell d1 (by go_simp)
  have r0 : w1.cell? ⟨w.heap.size + 1, 0, none⟩ = some (.int .i64 0) := keepCell d1 (by go_simp)
  have fr0 : w1.frozen? ⟨w.heap.size + 1, 0, none⟩ = false := keepFrozen (v := .int .i64 0) d1 (by go_simp) (by go_simp)
  have qr0 := World.block_lt_of_cell? _ _ r0
  have r1 : w1.cell? ⟨w.heap.size + 1, 1, none⟩ = some (.int .i64 0) := keepCell d1 (by go_simp)
  have fr1 : w1.frozen? ⟨w.heap.size + 1, 1, none⟩ = false := keepFrozen (v := .int .i64 0) d1 (by go_simp) (by go_simp)
  have r2 : w1.cell? ⟨w.heap.size + 1, 2, none⟩ = some (.int .i64 0) := keepCell d1 (by go_simp)
  have fr2 : w1.frozen? ⟨w.heap.size + 1, 2, none⟩ = false := keepFrozen (v := .int .i64 0) d1 (by go_simp) (by go_simp)
  have hB := c1
  clear c1 d1
  obtain ⟨g0, g1, g2⟩ := three_stores (u0 := .int .i64 (0)) (u1 := .int .i64 (0)) (u2 := .int .i64 (0)) r0 r1 r2
  go_wp2
  exact bodyPost_ret (v := .tuple #[.agg #[.int .i64 (0), .int .i64 (0), .int .i64 (0)], .int .i64 1]) (by simp [results, Tryz.results66, go_sem, g0, g1, g2]) rfl ⟨rfl, ((hB.setCell (by simp) _).setCell (by simp) _).setCell (by simp) _⟩
/-- UP: of a cell that may be, to a size that is none finer. -/
theorem cupto_yes (r a b t : Int) (n : Nat) (hn : r - t = (n : Int)) (h : Ok4 r a b) (t0 : 0 ≤ t) (w : World) (hT : Tabs w) :
    Calls Tryz.prog 66 #[.agg #[.int .i64 r, .int .i64 a, .int .i64 b], .int .i64 t] w fun e w' => e = .returned (.tuple #[.agg #[.int .i64 (t), .int .i64 ((ups n a b).1), .int .i64 ((ups n a b).2)], .int .i64 0]) ∧ Below w.heap.size w w' :=
  cupto_core r a b t _ _ t0 (by omega) h (craised_any r a b t n hn t0 h.2.1 h.2.2.1 h.2.2.2.1) w hT
theorem cupto_arg (r a b t : Int) (h : Ok4 r a b) (ht : ¬ (0 ≤ t ∧ t ≤ r)) (w : World) (hT : Tabs w) :
    Calls Tryz.prog 66 #[.agg #[.int .i64 r, .int .i64 a, .int .i64 b], .int .i64 t] w fun e w' => e = .returned (.tuple #[.agg #[.int .i64 (0), .int .i64 (0), .int .i64 (0)], .int .i64 1]) ∧ Below w.heap.size w w' := by
  by_cases q : t < 0
  · exact cupto_low r a b t h q w hT
  · exact cupto_high r a b t h (df q) (by omega) w hT
set_option maxHeartbeats 1000000 in
theorem cbase_core (r a b T P Q E : Int)
    (UP : ∀ w, Tabs w → Calls Tryz.prog 66 #[.agg #[.int .i64 r, .int .i64 a, .int .i64 b], .int .i64 0] w fun e w' => e = .returned (.tuple #[.agg #[.int .i64 T, .int .i64 P, .int .i64 Q], .int .i64 E]) ∧ Below w.heap.size w w') (w : World) (hT : Tabs w) :
    Calls Tryz.prog 37 #[.agg #[.int .i64 r, .int .i64 a, .int .i64 b]] w fun e w' => e = .returned (.tuple #[.agg #[.int .i64 (T), .int .i64 (P), .int .i64 (Q)], .int .i64 E]) ∧ Below w.heap.size w w' := by
  replace UP : Hid _ := UP
  have hT0 : Hid (Tabs w) := hT
  clear hT
  go_enter Tryz.func37, Tryz.ntmps37
  go_wp2_with fail
  refine (UP.out _ ?_).mono ?_
  · exact hT0.out.below (by go_grown)
  rintro e w1 ⟨rfl, d1⟩
  have c1 : Below w.heap.size w w1 := Below.trans (by go_grown) (d1.mono (by simp; try omega))
  have r0 : w1.cell? ⟨w.heap.size + 1, 0, none⟩ = some (.int .i64 0) := keepCell d1 (by go_simp)
  have fr0 : w1.frozen? ⟨w.heap.size + 1, 0, none⟩ = false := keepFrozen (v := .int .i64 0) d1 (by go_simp) (by go_simp)
  have qr0 := World.block_lt_of_cell? _ _ r0
  have r1 : w1.cell? ⟨w.heap.size + 1, 1, none⟩ = some (.int .i64 0) := keepCell d1 (by go_simp)
  have fr1 : w1.frozen? ⟨w.heap.size + 1, 1, none⟩ = false := keepFrozen (v := .int .i64 0) d1 (by go_simp) (by go_simp)
  have r2 : w1.cell? ⟨w.heap.size + 1, 2, none⟩ = some (.int .i64 0) := keepCell d1 (by go_simp)
  have fr2 : w1.frozen? ⟨w.heap.size + 1, 2, none⟩ = false := keepFrozen (v := .int .i64 0) d1 (by go_simp) (by go_simp)
  have hB := c1
  clear c1 d1
  obtain ⟨g0, g1, g2⟩ := three_stores (u0 := .int .i64 (T)) (u1 := .int .i64 (P)) (u2 := .int .i64 (Q)) r0 r1 r2
  go_wp2
  exact bodyPost_ret (v := .tuple #[.agg #[.int .i64 (T), .int .i64 (P), .int .i64 (Q)], .int .i64 E]) (by simp [results, Tryz.results37, go_sem, g0, g1, g2]) rfl ⟨rfl, ((hB.setCell (by simp) _).setCell (by simp) _).setCell (by simp) _⟩
/-- BASE: the coarsest cell that it belongs to. -/
theorem cbase_yes (r a b : Int) (h : Ok4 r a b) (w : World) (hT : Tabs w) :
    Calls Tryz.prog 37 #[.agg #[.int .i64 r, .int .i64 a, .int .i64 b]] w fun e w' => e = .returned (.tuple #[.agg #[.int .i64 (0), .int .i64 ((ups r.toNat a b).1), .int .i64 ((ups r.toNat a b).2)], .int .i64 0]) ∧ Below w.heap.size w w' :=
  cbase_core r a b 0 _ _ 0 (cupto_yes r a b 0 r.toNat (by have := h.1; omega) h (by omega)) w hT
set_option maxHeartbeats 1000000 in
theorem cdigit_yes (r a b : Int) (h : Ok4 r a b) (hr : 0 < r) (w : World) (hT : Tabs w) :
    Calls Tryz.prog 68 #[.agg #[.int .i64 r, .int .i64 a, .int .i64 b]] w fun e w' => e = .returned (.int .i64 (dig a b)) ∧ Below w.heap.size w w' := by
  have OK : Hid (∀ w, Tabs w → Calls Tryz.prog 53 #[.agg #[.int .i64 r, .int .i64 a, .int .i64 b]] w fun e w' => e = .returned (.bool true) ∧ Below w.heap.size w w') := fun w hT => cok_yes r a b h w hT
  have SP : Hid (∀ w, Tabs w → Calls Tryz.prog 94 #[.agg #[.int .i64 a, .int .i64 b]] w fun e w' => e = .returned (.tuple #[.agg #[.int .i64 (parA a b), .int .i64 (parB a b)], .int .i64 (dig a b)]) ∧ Below w.heap.size w w') := csplit_any a b h.2.2.1 h.2.2.2.1
  have q0 : (r == 0) = false := by simp; omega
  have hT0 : Hid (Tabs w) := hT
  clear hT h
  go_enter Tryz.func68, Tryz.ntmps68
  go_wp2_with fail
  refine (OK.out _ ?_).mono ?_
  · exact hT0.out.below (by go_grown)
  rintro e w1 ⟨rfl, d1⟩
  have c1 : Below w.heap.size w w1 := Below.trans (by go_grown) (d1.mono (by simp; try omega))
  have z0 : w1.cell? ⟨w.heap.size, 0, none⟩ = some (.int .i64 r) := keepCell d1 (by go_simp)
  have qz0 := World.block_lt_of_cell? _ _ z0
  have z1 : w1.cell? ⟨w.heap.size, 1, none⟩ = some (.int .i64 a) := keepCell d1 (by go_simp)
  have z2 : w1.cell? ⟨w.heap.size, 2, none⟩ = some (.int .i64 b) := keepCell d1 (by go_simp)
  have hB := c1
  clear c1 d1
  go_wp2_with fail
  refine (SP.out _ ?_).mono ?_
  · exact hT0.out.below hB
  rintro e w2 ⟨rfl, d2⟩
  have c2 : Below w1.heap.size w1 w2 := Below.trans (by go_grown) (d2.mono (by simp; try omega))
  replace z0 := keepCell c2 z0
  replace qz0 := World.block_lt_of_cell? _ _ z0
  replace z1 := keepCell c2 z1
  replace z2 := keepCell c2 z2
  replace hB := belowT hB c2
  clear c2 d2
  go_wp2
  go_ret
  exact ⟨rfl, hB.alloc (by have := hB.size; omega) _⟩
set_option maxHeartbeats 1000000 in
theorem cdigit_bad (r a b : Int) (h : ¬ Ok4 r a b) (w : World) (hT : Tabs w) :
    Calls Tryz.prog 68 #[.agg #[.int .i64 r, .int .i64 a, .int .i64 b]] w fun e w' => e = .returned (.int .i64 (-1)) ∧ Below w.heap.size w w' := by
  have OK : Hid (∀ w, Tabs w → Calls Tryz.prog 53 #[.agg #[.int .i64 r, .int .i64 a, .int .i64 b]] w fun e w' => e = .returned (.bool false) ∧ Below w.heap.size w w') := fun w hT => cok_no r a b h w hT
  have hT0 : Hid (Tabs w) := hT
  clear hT h
  go_enter Tryz.func68, Tryz.ntmps68
  go_wp2_with fail
  refine (OK.out _ ?_).mono ?_
  · exact hT0.out.below (by go_grown)
  rintro e w1 ⟨rfl, d1⟩
  have c1 : Below w.heap.size w w1 := Below.trans (by go_grown) (d1.mono (by simp; try omega))
  have z0 : w1.cell? ⟨w.heap.size, 0, none⟩ = some (.int .i64 r) := keepCell d1 (by go_simp)
  have qz0 := World.block_lt_of_cell? _ _ z0
  have z1 : w1.cell? ⟨w.heap.size, 1, none⟩ = some (.int .i64 a) := keepCell d1 (by go_simp)
  have z2 : w1.cell? ⟨w.heap.size, 2, none⟩ = some (.int .i64 b) := keepCell d1 (by go_simp)
  have hB := c1
  clear c1 d1
  go_wp2
  go_ret
  exact ⟨rfl, hB⟩
set_option maxHeartbeats 1000000 in
theorem cdigit_top (r a b : Int) (h : Ok4 r a b) (hr : (r == 0) = true) (w : World) (hT : Tabs w) :
    Calls Tryz.prog 68 #[.agg #[.int .i64 r, .int .i64 a, .int .i64 b]] w fun e w' => e = .returned (.int .i64 (-1)) ∧ Below w.heap.size w w' := by
  have OK : Hid (∀ w, Tabs w → Calls Tryz.prog 53 #[.agg #[.int .i64 r, .int .i64 a, .int .i64 b]] w fun e w' => e = .returned (.bool true) ∧ Below w.heap.size w w') := fun w hT => cok_yes r a b h w hT
  have hT0 : Hid (Tabs w) := hT
  clear hT h
  go_enter Tryz.func68, Tryz.ntmps68
  go_wp2_with fail
  refine (OK.out _ ?_).mono ?_
  · exact hT0.out.below (by go_grown)
  rintro e w1 ⟨rfl, d1⟩
  have c1 : Below w.heap.size w w1 := Below.trans (by go_grown) (d1.mono (by simp; try omega))
  have z0 : w1.cell? ⟨w.heap.size, 0, none⟩ = some (.int .i64 r) := keepCell d1 (by go_simp)
  have qz0 := World.block_lt_of_cell? _ _ z0
  have z1 : w1.cell? ⟨w.heap.size, 1, none⟩ = some (.int .i64 a) := keepCell d1 (by go_simp)
  have z2 : w1.cell? ⟨w.heap.size, 2, none⟩ = some (.int .i64 b) := keepCell d1 (by go_simp)
  have hB := c1
  clear c1 d1
  go_wp2
  go_ret
  exact ⟨rfl, hB⟩
end Go.Proofs.YtlipbdiijjfheaaGreatDoor
