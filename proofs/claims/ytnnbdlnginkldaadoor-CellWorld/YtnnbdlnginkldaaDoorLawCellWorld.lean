/-
  The law CellWorld answers true for every three numbers, in whatever memory where the tables of Units and of digits hold what their texts lay: each point of the world's border has a cell of each size that may be, and whose base may be.
-/
import Derived.Test.YtnnbdlnginkldaaDoorCSome
import Derived.Test.YtnnbdlnginkldaaDoorCAwake
namespace Go.Proofs.YtnnbdlnginkldaaDoor
open Go.RowKit

theorem mask2 (n : Int) : bits .and .i64 n 3 = n % 4 := by
  have := i64_mask n 2 (by omega)
  simpa using this

set_option maxHeartbeats 8000000 in
set_option maxRecDepth 20000 in
theorem cellWorld_0 (x0 side r0 t s x y a b P Q : Int) (hm : bits .and .i64 side 3 = 0) (ht : r0.tmod 13 = t) (hs : (t + 13).tmod 13 = s) (t1 : -13 < t) (t2 : t < 13)
    (PT : ∀ w, Calls Tryd.prog 16 #[.int .i64 x0, .int .i64 0] w fun e w' => e = .returned (.tuple #[.int .i64 x, .int .i64 y]) ∧ Below w.heap.size w w')
    (OF : ∀ w, Calls Tryd.prog 17 #[.int .i64 x, .int .i64 0, .int .i64 s] w fun e w' => e = .returned (.tuple #[.agg #[.int .i64 s, .int .i64 a, .int .i64 b], .int .i64 0]) ∧ Below w.heap.size w w')
    (BA : ∀ w, Tabs w → Calls Tryd.prog 11 #[.agg #[.int .i64 s, .int .i64 a, .int .i64 b]] w fun e w' => e = .returned (.tuple #[.agg #[.int .i64 0, .int .i64 P, .int .i64 Q], .int .i64 0]) ∧ Below w.heap.size w w')
    (O1 : ∀ w, Tabs w → Calls Tryd.prog 13 #[.agg #[.int .i64 s, .int .i64 a, .int .i64 b]] w fun e w' => e = .returned (.bool true) ∧ Below w.heap.size w w')
    (O2 : ∀ w, Tabs w → Calls Tryd.prog 13 #[.agg #[.int .i64 0, .int .i64 P, .int .i64 Q]] w fun e w' => e = .returned (.bool true) ∧ Below w.heap.size w w')
    (w : World) (hT : Tabs w) :
    Calls Tryd.prog 5 #[.int .i64 x0, .int .i64 side, .int .i64 r0] w fun e w' => e = .returned (.bool true) ∧ Below w.heap.size w w' := by
  replace PT : Hid _ := PT
  replace OF : Hid _ := OF
  replace BA : Hid _ := BA
  replace O1 : Hid _ := O1
  replace O2 : Hid _ := O2
  have hT0 : Hid (Tabs w) := hT
  clear hT
  go_enter Tryd.func5, Tryd.ntmps5
  go_wp2_with fail
  refine (PT.out _).mono ?_
  rintro e w1 ⟨rfl, d1⟩
  have c1 : Below w.heap.size w w1 := Below.trans (by go_grown) (d1.mono (by simp; try omega))
  have hB := c1
  clear c1 d1
  go_wp2_with fail
  refine (OF.out _).mono ?_
  rintro e w2 ⟨rfl, d2⟩
  have c2 : Below w1.heap.size w1 w2 := Below.trans (by go_grown) (d2.mono (by simp; try omega))
  replace hB := belowT hB c2
  clear c2 d2
  go_wp2_with fail
  refine (BA.out _ ?_).mono ?_
  · exact hT0.out.below (belowT hB (by go_grown))
  rintro e w3 ⟨rfl, d3⟩
  have c3 : Below w2.heap.size w2 w3 := Below.trans (by go_grown) (d3.mono (by simp; try omega))
  have k0 : w3.cell? ⟨w2.heap.size, 0, none⟩ = some (.int .i64 s) := keepCell d3 (by go_simp)
  have qk0 := World.block_lt_of_cell? _ _ k0
  have k1 : w3.cell? ⟨w2.heap.size, 1, none⟩ = some (.int .i64 a) := keepCell d3 (by go_simp)
  have k2 : w3.cell? ⟨w2.heap.size, 2, none⟩ = some (.int .i64 b) := keepCell d3 (by go_simp)
  replace hB := belowT hB c3
  clear c3 d3
  go_wp2_with fail
  refine (O1.out _ ?_).mono ?_
  · exact hT0.out.below (belowT hB (by go_grown))
  rintro e w4 ⟨rfl, d4⟩
  have c4 : Below w3.heap.size w3 w4 := Below.trans (by go_grown) (d4.mono (by simp; try omega))
  replace k0 := keepCell c4 k0
  replace qk0 := World.block_lt_of_cell? _ _ k0
  replace k1 := keepCell c4 k1
  replace k2 := keepCell c4 k2
  have p0 : w4.cell? ⟨w3.heap.size, 0, none⟩ = some (.int .i64 0) := keepCell d4 (by go_simp)
  have qp0 := World.block_lt_of_cell? _ _ p0
  have p1 : w4.cell? ⟨w3.heap.size, 1, none⟩ = some (.int .i64 P) := keepCell d4 (by go_simp)
  have p2 : w4.cell? ⟨w3.heap.size, 2, none⟩ = some (.int .i64 Q) := keepCell d4 (by go_simp)
  replace hB := belowT hB c4
  clear c4 d4
  go_wp2_with fail
  refine (O2.out _ ?_).mono ?_
  · exact hT0.out.below hB
  rintro e w5 ⟨rfl, d5⟩
  have c5 : Below w4.heap.size w4 w5 := Below.trans (by go_grown) (d5.mono (by simp; try omega))
  replace k0 := keepCell c5 k0
  replace qk0 := World.block_lt_of_cell? _ _ k0
  replace k1 := keepCell c5 k1
  replace k2 := keepCell c5 k2
  replace p0 := keepCell c5 p0
  replace qp0 := World.block_lt_of_cell? _ _ p0
  replace p1 := keepCell c5 p1
  replace p2 := keepCell c5 p2
  replace hB := belowT hB c5
  clear c5 d5
  go_wp2_with fail
  refine (cawake _ ?_).mono ?_
  · exact hT0.out.below hB
  rintro e w6 ⟨rfl, d6⟩
  have c6 : Below w5.heap.size w5 w6 := Below.trans (by go_grown) (d6.mono (by simp; try omega))
  replace k0 := keepCell c6 k0
  replace qk0 := World.block_lt_of_cell? _ _ k0
  replace k1 := keepCell c6 k1
  replace k2 := keepCell c6 k2
  replace p0 := keepCell c6 p0
  replace qp0 := World.block_lt_of_cell? _ _ p0
  replace p1 := keepCell c6 p1
  replace p2 := keepCell c6 p2
  replace hB := belowT hB c6
  clear c6 d6
  go_wp2
  go_ret
  exact ⟨rfl, hB⟩

set_option maxHeartbeats 8000000 in
set_option maxRecDepth 20000 in
theorem cellWorld_1 (x0 side r0 t s x y a b P Q : Int) (hm : bits .and .i64 side 3 = 1) (ht : r0.tmod 13 = t) (hs : (t + 13).tmod 13 = s) (t1 : -13 < t) (t2 : t < 13)
    (PT : ∀ w, Calls Tryd.prog 16 #[.int .i64 x0, .int .i64 0] w fun e w' => e = .returned (.tuple #[.int .i64 x, .int .i64 y]) ∧ Below w.heap.size w w')
    (OF : ∀ w, Calls Tryd.prog 17 #[.int .i64 x, .int .i64 1073741823, .int .i64 s] w fun e w' => e = .returned (.tuple #[.agg #[.int .i64 s, .int .i64 a, .int .i64 b], .int .i64 0]) ∧ Below w.heap.size w w')
    (BA : ∀ w, Tabs w → Calls Tryd.prog 11 #[.agg #[.int .i64 s, .int .i64 a, .int .i64 b]] w fun e w' => e = .returned (.tuple #[.agg #[.int .i64 0, .int .i64 P, .int .i64 Q], .int .i64 0]) ∧ Below w.heap.size w w')
    (O1 : ∀ w, Tabs w → Calls Tryd.prog 13 #[.agg #[.int .i64 s, .int .i64 a, .int .i64 b]] w fun e w' => e = .returned (.bool true) ∧ Below w.heap.size w w')
    (O2 : ∀ w, Tabs w → Calls Tryd.prog 13 #[.agg #[.int .i64 0, .int .i64 P, .int .i64 Q]] w fun e w' => e = .returned (.bool true) ∧ Below w.heap.size w w')
    (w : World) (hT : Tabs w) :
    Calls Tryd.prog 5 #[.int .i64 x0, .int .i64 side, .int .i64 r0] w fun e w' => e = .returned (.bool true) ∧ Below w.heap.size w w' := by
  replace PT : Hid _ := PT
  replace OF : Hid _ := OF
  replace BA : Hid _ := BA
  replace O1 : Hid _ := O1
  replace O2 : Hid _ := O2
  have hT0 : Hid (Tabs w) := hT
  clear hT
  go_enter Tryd.func5, Tryd.ntmps5
  go_wp2_with fail
  refine (PT.out _).mono ?_
  rintro e w1 ⟨rfl, d1⟩
  have c1 : Below w.heap.size w w1 := Below.trans (by go_grown) (d1.mono (by simp; try omega))
  have hB := c1
  clear c1 d1
  go_wp2_with fail
  refine (OF.out _).mono ?_
  rintro e w2 ⟨rfl, d2⟩
  have c2 : Below w1.heap.size w1 w2 := Below.trans (by go_grown) (d2.mono (by simp; try omega))
  replace hB := belowT hB c2
  clear c2 d2
  go_wp2_with fail
  refine (BA.out _ ?_).mono ?_
  · exact hT0.out.below (belowT hB (by go_grown))
  rintro e w3 ⟨rfl, d3⟩
  have c3 : Below w2.heap.size w2 w3 := Below.trans (by go_grown) (d3.mono (by simp; try omega))
  have k0 : w3.cell? ⟨w2.heap.size, 0, none⟩ = some (.int .i64 s) := keepCell d3 (by go_simp)
  have qk0 := World.block_lt_of_cell? _ _ k0
  have k1 : w3.cell? ⟨w2.heap.size, 1, none⟩ = some (.int .i64 a) := keepCell d3 (by go_simp)
  have k2 : w3.cell? ⟨w2.heap.size, 2, none⟩ = some (.int .i64 b) := keepCell d3 (by go_simp)
  replace hB := belowT hB c3
  clear c3 d3
  go_wp2_with fail
  refine (O1.out _ ?_).mono ?_
  · exact hT0.out.below (belowT hB (by go_grown))
  rintro e w4 ⟨rfl, d4⟩
  have c4 : Below w3.heap.size w3 w4 := Below.trans (by go_grown) (d4.mono (by simp; try omega))
  replace k0 := keepCell c4 k0
  replace qk0 := World.block_lt_of_cell? _ _ k0
  replace k1 := keepCell c4 k1
  replace k2 := keepCell c4 k2
  have p0 : w4.cell? ⟨w3.heap.size, 0, none⟩ = some (.int .i64 0) := keepCell d4 (by go_simp)
  have qp0 := World.block_lt_of_cell? _ _ p0
  have p1 : w4.cell? ⟨w3.heap.size, 1, none⟩ = some (.int .i64 P) := keepCell d4 (by go_simp)
  have p2 : w4.cell? ⟨w3.heap.size, 2, none⟩ = some (.int .i64 Q) := keepCell d4 (by go_simp)
  replace hB := belowT hB c4
  clear c4 d4
  go_wp2_with fail
  refine (O2.out _ ?_).mono ?_
  · exact hT0.out.below hB
  rintro e w5 ⟨rfl, d5⟩
  have c5 : Below w4.heap.size w4 w5 := Below.trans (by go_grown) (d5.mono (by simp; try omega))
  replace k0 := keepCell c5 k0
  replace qk0 := World.block_lt_of_cell? _ _ k0
  replace k1 := keepCell c5 k1
  replace k2 := keepCell c5 k2
  replace p0 := keepCell c5 p0
  replace qp0 := World.block_lt_of_cell? _ _ p0
  replace p1 := keepCell c5 p1
  replace p2 := keepCell c5 p2
  replace hB := belowT hB c5
  clear c5 d5
  go_wp2_with fail
  refine (cawake _ ?_).mono ?_
  · exact hT0.out.below hB
  rintro e w6 ⟨rfl, d6⟩
  have c6 : Below w5.heap.size w5 w6 := Below.trans (by go_grown) (d6.mono (by simp; try omega))
  replace k0 := keepCell c6 k0
  replace qk0 := World.block_lt_of_cell? _ _ k0
  replace k1 := keepCell c6 k1
  replace k2 := keepCell c6 k2
  replace p0 := keepCell c6 p0
  replace qp0 := World.block_lt_of_cell? _ _ p0
  replace p1 := keepCell c6 p1
  replace p2 := keepCell c6 p2
  replace hB := belowT hB c6
  clear c6 d6
  go_wp2
  go_ret
  exact ⟨rfl, hB⟩

set_option maxHeartbeats 8000000 in
set_option maxRecDepth 20000 in
theorem cellWorld_2 (x0 side r0 t s x y a b P Q : Int) (hm : bits .and .i64 side 3 = 2) (ht : r0.tmod 13 = t) (hs : (t + 13).tmod 13 = s) (t1 : -13 < t) (t2 : t < 13)
    (PT : ∀ w, Calls Tryd.prog 16 #[.int .i64 x0, .int .i64 0] w fun e w' => e = .returned (.tuple #[.int .i64 x, .int .i64 y]) ∧ Below w.heap.size w w')
    (OF : ∀ w, Calls Tryd.prog 17 #[.int .i64 0, .int .i64 x, .int .i64 s] w fun e w' => e = .returned (.tuple #[.agg #[.int .i64 s, .int .i64 a, .int .i64 b], .int .i64 0]) ∧ Below w.heap.size w w')
    (BA : ∀ w, Tabs w → Calls Tryd.prog 11 #[.agg #[.int .i64 s, .int .i64 a, .int .i64 b]] w fun e w' => e = .returned (.tuple #[.agg #[.int .i64 0, .int .i64 P, .int .i64 Q], .int .i64 0]) ∧ Below w.heap.size w w')
    (O1 : ∀ w, Tabs w → Calls Tryd.prog 13 #[.agg #[.int .i64 s, .int .i64 a, .int .i64 b]] w fun e w' => e = .returned (.bool true) ∧ Below w.heap.size w w')
    (O2 : ∀ w, Tabs w → Calls Tryd.prog 13 #[.agg #[.int .i64 0, .int .i64 P, .int .i64 Q]] w fun e w' => e = .returned (.bool true) ∧ Below w.heap.size w w')
    (w : World) (hT : Tabs w) :
    Calls Tryd.prog 5 #[.int .i64 x0, .int .i64 side, .int .i64 r0] w fun e w' => e = .returned (.bool true) ∧ Below w.heap.size w w' := by
  replace PT : Hid _ := PT
  replace OF : Hid _ := OF
  replace BA : Hid _ := BA
  replace O1 : Hid _ := O1
  replace O2 : Hid _ := O2
  have hT0 : Hid (Tabs w) := hT
  clear hT
  go_enter Tryd.func5, Tryd.ntmps5
  go_wp2_with fail
  refine (PT.out _).mono ?_
  rintro e w1 ⟨rfl, d1⟩
  have c1 : Below w.heap.size w w1 := Below.trans (by go_grown) (d1.mono (by simp; try omega))
  have hB := c1
  clear c1 d1
  go_wp2_with fail
  refine (OF.out _).mono ?_
  rintro e w2 ⟨rfl, d2⟩
  have c2 : Below w1.heap.size w1 w2 := Below.trans (by go_grown) (d2.mono (by simp; try omega))
  replace hB := belowT hB c2
  clear c2 d2
  go_wp2_with fail
  refine (BA.out _ ?_).mono ?_
  · exact hT0.out.below (belowT hB (by go_grown))
  rintro e w3 ⟨rfl, d3⟩
  have c3 : Below w2.heap.size w2 w3 := Below.trans (by go_grown) (d3.mono (by simp; try omega))
  have k0 : w3.cell? ⟨w2.heap.size, 0, none⟩ = some (.int .i64 s) := keepCell d3 (by go_simp)
  have qk0 := World.block_lt_of_cell? _ _ k0
  have k1 : w3.cell? ⟨w2.heap.size, 1, none⟩ = some (.int .i64 a) := keepCell d3 (by go_simp)
  have k2 : w3.cell? ⟨w2.heap.size, 2, none⟩ = some (.int .i64 b) := keepCell d3 (by go_simp)
  replace hB := belowT hB c3
  clear c3 d3
  go_wp2_with fail
  refine (O1.out _ ?_).mono ?_
  · exact hT0.out.below (belowT hB (by go_grown))
  rintro e w4 ⟨rfl, d4⟩
  have c4 : Below w3.heap.size w3 w4 := Below.trans (by go_grown) (d4.mono (by simp; try omega))
  replace k0 := keepCell c4 k0
  replace qk0 := World.block_lt_of_cell? _ _ k0
  replace k1 := keepCell c4 k1
  replace k2 := keepCell c4 k2
  have p0 : w4.cell? ⟨w3.heap.size, 0, none⟩ = some (.int .i64 0) := keepCell d4 (by go_simp)
  have qp0 := World.block_lt_of_cell? _ _ p0
  have p1 : w4.cell? ⟨w3.heap.size, 1, none⟩ = some (.int .i64 P) := keepCell d4 (by go_simp)
  have p2 : w4.cell? ⟨w3.heap.size, 2, none⟩ = some (.int .i64 Q) := keepCell d4 (by go_simp)
  replace hB := belowT hB c4
  clear c4 d4
  go_wp2_with fail
  refine (O2.out _ ?_).mono ?_
  · exact hT0.out.below hB
  rintro e w5 ⟨rfl, d5⟩
  have c5 : Below w4.heap.size w4 w5 := Below.trans (by go_grown) (d5.mono (by simp; try omega))
  replace k0 := keepCell c5 k0
  replace qk0 := World.block_lt_of_cell? _ _ k0
  replace k1 := keepCell c5 k1
  replace k2 := keepCell c5 k2
  replace p0 := keepCell c5 p0
  replace qp0 := World.block_lt_of_cell? _ _ p0
  replace p1 := keepCell c5 p1
  replace p2 := keepCell c5 p2
  replace hB := belowT hB c5
  clear c5 d5
  go_wp2_with fail
  refine (cawake _ ?_).mono ?_
  · exact hT0.out.below hB
  rintro e w6 ⟨rfl, d6⟩
  have c6 : Below w5.heap.size w5 w6 := Below.trans (by go_grown) (d6.mono (by simp; try omega))
  replace k0 := keepCell c6 k0
  replace qk0 := World.block_lt_of_cell? _ _ k0
  replace k1 := keepCell c6 k1
  replace k2 := keepCell c6 k2
  replace p0 := keepCell c6 p0
  replace qp0 := World.block_lt_of_cell? _ _ p0
  replace p1 := keepCell c6 p1
  replace p2 := keepCell c6 p2
  replace hB := belowT hB c6
  clear c6 d6
  go_wp2
  go_ret
  exact ⟨rfl, hB⟩

set_option maxHeartbeats 8000000 in
set_option maxRecDepth 20000 in
theorem cellWorld_3 (x0 side r0 t s x y a b P Q : Int) (hm : bits .and .i64 side 3 = 3) (ht : r0.tmod 13 = t) (hs : (t + 13).tmod 13 = s) (t1 : -13 < t) (t2 : t < 13)
    (PT : ∀ w, Calls Tryd.prog 16 #[.int .i64 x0, .int .i64 0] w fun e w' => e = .returned (.tuple #[.int .i64 x, .int .i64 y]) ∧ Below w.heap.size w w')
    (OF : ∀ w, Calls Tryd.prog 17 #[.int .i64 1073741823, .int .i64 x, .int .i64 s] w fun e w' => e = .returned (.tuple #[.agg #[.int .i64 s, .int .i64 a, .int .i64 b], .int .i64 0]) ∧ Below w.heap.size w w')
    (BA : ∀ w, Tabs w → Calls Tryd.prog 11 #[.agg #[.int .i64 s, .int .i64 a, .int .i64 b]] w fun e w' => e = .returned (.tuple #[.agg #[.int .i64 0, .int .i64 P, .int .i64 Q], .int .i64 0]) ∧ Below w.heap.size w w')
    (O1 : ∀ w, Tabs w → Calls Tryd.prog 13 #[.agg #[.int .i64 s, .int .i64 a, .int .i64 b]] w fun e w' => e = .returned (.bool true) ∧ Below w.heap.size w w')
    (O2 : ∀ w, Tabs w → Calls Tryd.prog 13 #[.agg #[.int .i64 0, .int .i64 P, .int .i64 Q]] w fun e w' => e = .returned (.bool true) ∧ Below w.heap.size w w')
    (w : World) (hT : Tabs w) :
    Calls Tryd.prog 5 #[.int .i64 x0, .int .i64 side, .int .i64 r0] w fun e w' => e = .returned (.bool true) ∧ Below w.heap.size w w' := by
  replace PT : Hid _ := PT
  replace OF : Hid _ := OF
  replace BA : Hid _ := BA
  replace O1 : Hid _ := O1
  replace O2 : Hid _ := O2
  have hT0 : Hid (Tabs w) := hT
  clear hT
  go_enter Tryd.func5, Tryd.ntmps5
  go_wp2_with fail
  refine (PT.out _).mono ?_
  rintro e w1 ⟨rfl, d1⟩
  have c1 : Below w.heap.size w w1 := Below.trans (by go_grown) (d1.mono (by simp; try omega))
  have hB := c1
  clear c1 d1
  go_wp2_with fail
  refine (OF.out _).mono ?_
  rintro e w2 ⟨rfl, d2⟩
  have c2 : Below w1.heap.size w1 w2 := Below.trans (by go_grown) (d2.mono (by simp; try omega))
  replace hB := belowT hB c2
  clear c2 d2
  go_wp2_with fail
  refine (BA.out _ ?_).mono ?_
  · exact hT0.out.below (belowT hB (by go_grown))
  rintro e w3 ⟨rfl, d3⟩
  have c3 : Below w2.heap.size w2 w3 := Below.trans (by go_grown) (d3.mono (by simp; try omega))
  have k0 : w3.cell? ⟨w2.heap.size, 0, none⟩ = some (.int .i64 s) := keepCell d3 (by go_simp)
  have qk0 := World.block_lt_of_cell? _ _ k0
  have k1 : w3.cell? ⟨w2.heap.size, 1, none⟩ = some (.int .i64 a) := keepCell d3 (by go_simp)
  have k2 : w3.cell? ⟨w2.heap.size, 2, none⟩ = some (.int .i64 b) := keepCell d3 (by go_simp)
  replace hB := belowT hB c3
  clear c3 d3
  go_wp2_with fail
  refine (O1.out _ ?_).mono ?_
  · exact hT0.out.below (belowT hB (by go_grown))
  rintro e w4 ⟨rfl, d4⟩
  have c4 : Below w3.heap.size w3 w4 := Below.trans (by go_grown) (d4.mono (by simp; try omega))
  replace k0 := keepCell c4 k0
  replace qk0 := World.block_lt_of_cell? _ _ k0
  replace k1 := keepCell c4 k1
  replace k2 := keepCell c4 k2
  have p0 : w4.cell? ⟨w3.heap.size, 0, none⟩ = some (.int .i64 0) := keepCell d4 (by go_simp)
  have qp0 := World.block_lt_of_cell? _ _ p0
  have p1 : w4.cell? ⟨w3.heap.size, 1, none⟩ = some (.int .i64 P) := keepCell d4 (by go_simp)
  have p2 : w4.cell? ⟨w3.heap.size, 2, none⟩ = some (.int .i64 Q) := keepCell d4 (by go_simp)
  replace hB := belowT hB c4
  clear c4 d4
  go_wp2_with fail
  refine (O2.out _ ?_).mono ?_
  · exact hT0.out.below hB
  rintro e w5 ⟨rfl, d5⟩
  have c5 : Below w4.heap.size w4 w5 := Below.trans (by go_grown) (d5.mono (by simp; try omega))
  replace k0 := keepCell c5 k0
  replace qk0 := World.block_lt_of_cell? _ _ k0
  replace k1 := keepCell c5 k1
  replace k2 := keepCell c5 k2
  replace p0 := keepCell c5 p0
  replace qp0 := World.block_lt_of_cell? _ _ p0
  replace p1 := keepCell c5 p1
  replace p2 := keepCell c5 p2
  replace hB := belowT hB c5
  clear c5 d5
  go_wp2_with fail
  refine (cawake _ ?_).mono ?_
  · exact hT0.out.below hB
  rintro e w6 ⟨rfl, d6⟩
  have c6 : Below w5.heap.size w5 w6 := Below.trans (by go_grown) (d6.mono (by simp; try omega))
  replace k0 := keepCell c6 k0
  replace qk0 := World.block_lt_of_cell? _ _ k0
  replace k1 := keepCell c6 k1
  replace k2 := keepCell c6 k2
  replace p0 := keepCell c6 p0
  replace qp0 := World.block_lt_of_cell? _ _ p0
  replace p1 := keepCell c6 p1
  replace p2 := keepCell c6 p2
  replace hB := belowT hB c6
  clear c6 d6
  go_wp2
  go_ret
  exact ⟨rfl, hB⟩

theorem cellWorld_walk (x0 side r0 : Int) (w : World) (hT : Tabs w) :
    Calls Tryd.prog 5 #[.int .i64 x0, .int .i64 side, .int .i64 r0] w fun e w' => e = .returned (.bool true) ∧ Below w.heap.size w w' := by
  obtain ⟨t, s, K, ht, hs, t1, t2, hK, hr⟩ := size13 r0
  obtain ⟨x, y, hw, PT⟩ := point_any x0 0
  obtain ⟨x1, x2, -, -⟩ := hw
  have hm := mask2 side
  have key : ∀ u v : Int, InW u v → ∃ a b P Q : Int, (∀ w, Calls Tryd.prog 17 #[.int .i64 u, .int .i64 v, .int .i64 s] w fun e w' => e = .returned (.tuple #[.agg #[.int .i64 s, .int .i64 a, .int .i64 b], .int .i64 0]) ∧ Below w.heap.size w w')
      ∧ (∀ w, Tabs w → Calls Tryd.prog 11 #[.agg #[.int .i64 s, .int .i64 a, .int .i64 b]] w fun e w' => e = .returned (.tuple #[.agg #[.int .i64 0, .int .i64 P, .int .i64 Q], .int .i64 0]) ∧ Below w.heap.size w w')
      ∧ (∀ w, Tabs w → Calls Tryd.prog 13 #[.agg #[.int .i64 s, .int .i64 a, .int .i64 b]] w fun e w' => e = .returned (.bool true) ∧ Below w.heap.size w w')
      ∧ (∀ w, Tabs w → Calls Tryd.prog 13 #[.agg #[.int .i64 0, .int .i64 P, .int .i64 Q]] w fun e w' => e = .returned (.bool true) ∧ Below w.heap.size w w') := by
    intro u v huv
    obtain ⟨a, b, hn⟩ := nearest_some (dvK_box (K := K) hK).1 (nuA K u v) (nuB K u v)
    have ho := near_ok hK hr huv hn
    have hb : Ok4 0 (ups s.toNat a b).1 (ups s.toNat a b).2 := by
      have := ok4_ups ho s.toNat (by have := ho.1; omega)
      rwa [show s - (s.toNat : Int) = 0 by have := ho.1; omega] at this
    exact ⟨a, b, _, _, cof_yes u v s K hK hr huv a b hn, cbase_yes s a b ho, cok_yes s a b ho, cok_yes _ _ _ hb⟩
  have hc : side % 4 = 0 ∨ side % 4 = 1 ∨ side % 4 = 2 ∨ side % 4 = 3 := by omega
  rcases hc with hc | hc | hc | hc
  · obtain ⟨a, b, P, Q, OF, BA, O1, O2⟩ := key (x) (0) ⟨by omega, by omega, by omega, by omega⟩
    exact cellWorld_0 x0 side r0 t s x y a b P Q (hm.trans hc) ht hs t1 t2 PT OF BA O1 O2 w hT
  · obtain ⟨a, b, P, Q, OF, BA, O1, O2⟩ := key (x) (1073741823) ⟨by omega, by omega, by omega, by omega⟩
    exact cellWorld_1 x0 side r0 t s x y a b P Q (hm.trans hc) ht hs t1 t2 PT OF BA O1 O2 w hT
  · obtain ⟨a, b, P, Q, OF, BA, O1, O2⟩ := key (0) (x) ⟨by omega, by omega, by omega, by omega⟩
    exact cellWorld_2 x0 side r0 t s x y a b P Q (hm.trans hc) ht hs t1 t2 PT OF BA O1 O2 w hT
  · obtain ⟨a, b, P, Q, OF, BA, O1, O2⟩ := key (1073741823) (x) ⟨by omega, by omega, by omega, by omega⟩
    exact cellWorld_3 x0 side r0 t s x y a b P Q (hm.trans hc) ht hs t1 t2 PT OF BA O1 O2 w hT
end Go.Proofs.YtnnbdlnginkldaaDoor
