/-
  The law CellOf answers true for every three numbers, in whatever memory where the tables of Units and of digits hold what their texts lay: the cell of a point, of each size, is the one of the nearest centre, and may be; what is no point, or no size, is refused.
-/
import Derived.Test.YtnnbdlnginkldaaDoorCSome
import Derived.Test.YtnnbdlnginkldaaDoorCAwake
namespace Go.Proofs.YtnnbdlnginkldaaDoor
open Go.RowKit

set_option maxHeartbeats 8000000 in
set_option maxRecDepth 20000 in
theorem cellOf_yes (x0 y0 r0 t s x y a b p q : Int) (ht : r0.tmod 13 = t) (hs : (t + 13).tmod 13 = s) (t1 : -13 < t) (t2 : t < 13)
    (O1 : ∀ w, Calls Tryd.prog 17 #[.int .i64 x0, .int .i64 y0, .int .i64 r0] w fun e w' => e = .returned (.tuple #[.agg #[.int .i64 r0, .int .i64 p, .int .i64 q], .int .i64 0]) ∧ Below w.heap.size w w')
    (N1 : ∀ w, Calls Tryd.prog 24 #[.int .i64 x0, .int .i64 y0, .int .i64 r0] w fun e w' => e = .returned (.tuple #[.agg #[.int .i64 p, .int .i64 q], .bool true]) ∧ Below w.heap.size w w')
    (WO : ∀ w, Calls Tryd.prog 25 #[.int .i64 x0, .int .i64 y0] w fun e w' => e = .returned (.bool true) ∧ w' = w)
    (PT : ∀ w, Calls Tryd.prog 16 #[.int .i64 x0, .int .i64 y0] w fun e w' => e = .returned (.tuple #[.int .i64 x, .int .i64 y]) ∧ Below w.heap.size w w')
    (O2 : ∀ w, Calls Tryd.prog 17 #[.int .i64 x, .int .i64 y, .int .i64 s] w fun e w' => e = .returned (.tuple #[.agg #[.int .i64 s, .int .i64 a, .int .i64 b], .int .i64 0]) ∧ Below w.heap.size w w')
    (N2 : ∀ w, Calls Tryd.prog 26 #[.int .i64 x, .int .i64 y, .int .i64 s] w fun e w' => e = .returned (.tuple #[.agg #[.int .i64 a, .int .i64 b], .bool true]) ∧ Below w.heap.size w w')
    (OK : ∀ w, Tabs w → Calls Tryd.prog 13 #[.agg #[.int .i64 s, .int .i64 a, .int .i64 b]] w fun e w' => e = .returned (.bool true) ∧ Below w.heap.size w w')
    (w : World) (hT : Tabs w) :
    Calls Tryd.prog 7 #[.int .i64 x0, .int .i64 y0, .int .i64 r0] w fun e w' => e = .returned (.bool true) ∧ Below w.heap.size w w' := by
  replace O1 : Hid _ := O1
  replace N1 : Hid _ := N1
  replace WO : Hid _ := WO
  replace PT : Hid _ := PT
  replace O2 : Hid _ := O2
  replace N2 : Hid _ := N2
  replace OK : Hid _ := OK
  have hT0 : Hid (Tabs w) := hT
  clear hT
  go_enter Tryd.func7, Tryd.ntmps7
  go_wp2_with fail
  refine (O1.out _).mono ?_
  rintro e w1 ⟨rfl, d1⟩
  have c1 : Below w.heap.size w w1 := Below.trans (by go_grown) (d1.mono (by simp; try omega))
  have hB := c1
  clear c1 d1
  go_wp2_with fail
  refine (N1.out _).mono ?_
  rintro e w2 ⟨rfl, d2⟩
  have c2 : Below w1.heap.size w1 w2 := Below.trans (by go_grown) (d2.mono (by simp; try omega))
  have k0 : w2.cell? ⟨w1.heap.size, 0, none⟩ = some (.int .i64 r0) := keepCell d2 (by go_simp)
  have qk0 := World.block_lt_of_cell? _ _ k0
  have k1 : w2.cell? ⟨w1.heap.size, 1, none⟩ = some (.int .i64 p) := keepCell d2 (by go_simp)
  have k2 : w2.cell? ⟨w1.heap.size, 2, none⟩ = some (.int .i64 q) := keepCell d2 (by go_simp)
  replace hB := belowT hB c2
  clear c2 d2
  go_wp2_with fail
  refine (WO.out _).mono ?_
  rintro e v1 ⟨rfl, rfl⟩
  go_wp2_with fail
  refine (PT.out _).mono ?_
  rintro e w3 ⟨rfl, d3⟩
  have c3 : Below w2.heap.size w2 w3 := Below.trans (by go_grown) (d3.mono (by simp; try omega))
  replace k0 := keepCell c3 k0
  replace qk0 := World.block_lt_of_cell? _ _ k0
  replace k1 := keepCell c3 k1
  replace k2 := keepCell c3 k2
  replace hB := belowT hB c3
  clear c3 d3
  go_wp2_with fail
  refine (O2.out _).mono ?_
  rintro e w4 ⟨rfl, d4⟩
  have c4 : Below w3.heap.size w3 w4 := Below.trans (by go_grown) (d4.mono (by simp; try omega))
  replace k0 := keepCell c4 k0
  replace qk0 := World.block_lt_of_cell? _ _ k0
  replace k1 := keepCell c4 k1
  replace k2 := keepCell c4 k2
  replace hB := belowT hB c4
  clear c4 d4
  go_wp2_with fail
  refine (N2.out _).mono ?_
  rintro e w5 ⟨rfl, d5⟩
  have c5 : Below w4.heap.size w4 w5 := Below.trans (by go_grown) (d5.mono (by simp; try omega))
  replace k0 := keepCell c5 k0
  replace qk0 := World.block_lt_of_cell? _ _ k0
  replace k1 := keepCell c5 k1
  replace k2 := keepCell c5 k2
  have p0 : w5.cell? ⟨w4.heap.size, 0, none⟩ = some (.int .i64 s) := keepCell d5 (by go_simp)
  have qp0 := World.block_lt_of_cell? _ _ p0
  have p1 : w5.cell? ⟨w4.heap.size, 1, none⟩ = some (.int .i64 a) := keepCell d5 (by go_simp)
  have p2 : w5.cell? ⟨w4.heap.size, 2, none⟩ = some (.int .i64 b) := keepCell d5 (by go_simp)
  replace hB := belowT hB c5
  clear c5 d5
  go_wp2_with fail
  refine (OK.out _ ?_).mono ?_
  · exact hT0.out.below (belowT hB (by go_grown))
  rintro e w6 ⟨rfl, d6⟩
  have c6 : Below w5.heap.size w5 w6 := Below.trans (by go_grown) (d6.mono (by simp; try omega))
  replace k0 := keepCell c6 k0
  replace qk0 := World.block_lt_of_cell? _ _ k0
  replace k1 := keepCell c6 k1
  replace k2 := keepCell c6 k2
  replace p0 := keepCell c6 p0
  replace qp0 := World.block_lt_of_cell? _ _ p0
  replace p1 := keepCell c6 p1
  replace p2 := keepCell c6 p2
  replace hB := belowT hB c6
  clear c6 d6
  go_wp2_with fail
  refine (cawake _ ?_).mono ?_
  · exact hT0.out.below hB
  rintro e w7 ⟨rfl, d7⟩
  have c7 : Below w6.heap.size w6 w7 := Below.trans (by go_grown) (d7.mono (by simp; try omega))
  replace k0 := keepCell c7 k0
  replace qk0 := World.block_lt_of_cell? _ _ k0
  replace k1 := keepCell c7 k1
  replace k2 := keepCell c7 k2
  replace p0 := keepCell c7 p0
  replace qp0 := World.block_lt_of_cell? _ _ p0
  replace p1 := keepCell c7 p1
  replace p2 := keepCell c7 p2
  replace hB := belowT hB c7
  clear c7 d7
  go_wp2
  go_ret
  exact ⟨rfl, hB⟩

set_option maxHeartbeats 8000000 in
set_option maxRecDepth 20000 in
theorem cellOf_world (x0 y0 r0 t s x y a b : Int) (ht : r0.tmod 13 = t) (hs : (t + 13).tmod 13 = s) (t1 : -13 < t) (t2 : t < 13)
    (O1 : ∀ w, Calls Tryd.prog 17 #[.int .i64 x0, .int .i64 y0, .int .i64 r0] w fun e w' => e = .returned (.tuple #[.agg #[.int .i64 0, .int .i64 0, .int .i64 0], .int .i64 4]) ∧ Below w.heap.size w w')
    (N1 : ∀ w, Calls Tryd.prog 24 #[.int .i64 x0, .int .i64 y0, .int .i64 r0] w fun e w' => e = .returned (.tuple #[.agg #[.int .i64 0, .int .i64 0], .bool false]) ∧ Below w.heap.size w w')
    (WO : ∀ w, Calls Tryd.prog 25 #[.int .i64 x0, .int .i64 y0] w fun e w' => e = .returned (.bool false) ∧ w' = w)
    (PT : ∀ w, Calls Tryd.prog 16 #[.int .i64 x0, .int .i64 y0] w fun e w' => e = .returned (.tuple #[.int .i64 x, .int .i64 y]) ∧ Below w.heap.size w w')
    (O2 : ∀ w, Calls Tryd.prog 17 #[.int .i64 x, .int .i64 y, .int .i64 s] w fun e w' => e = .returned (.tuple #[.agg #[.int .i64 s, .int .i64 a, .int .i64 b], .int .i64 0]) ∧ Below w.heap.size w w')
    (N2 : ∀ w, Calls Tryd.prog 26 #[.int .i64 x, .int .i64 y, .int .i64 s] w fun e w' => e = .returned (.tuple #[.agg #[.int .i64 a, .int .i64 b], .bool true]) ∧ Below w.heap.size w w')
    (OK : ∀ w, Tabs w → Calls Tryd.prog 13 #[.agg #[.int .i64 s, .int .i64 a, .int .i64 b]] w fun e w' => e = .returned (.bool true) ∧ Below w.heap.size w w')
    (w : World) (hT : Tabs w) :
    Calls Tryd.prog 7 #[.int .i64 x0, .int .i64 y0, .int .i64 r0] w fun e w' => e = .returned (.bool true) ∧ Below w.heap.size w w' := by
  replace O1 : Hid _ := O1
  replace N1 : Hid _ := N1
  replace WO : Hid _ := WO
  replace PT : Hid _ := PT
  replace O2 : Hid _ := O2
  replace N2 : Hid _ := N2
  replace OK : Hid _ := OK
  have hT0 : Hid (Tabs w) := hT
  clear hT
  go_enter Tryd.func7, Tryd.ntmps7
  go_wp2_with fail
  refine (O1.out _).mono ?_
  rintro e w1 ⟨rfl, d1⟩
  have c1 : Below w.heap.size w w1 := Below.trans (by go_grown) (d1.mono (by simp; try omega))
  have hB := c1
  clear c1 d1
  go_wp2_with fail
  refine (N1.out _).mono ?_
  rintro e w2 ⟨rfl, d2⟩
  have c2 : Below w1.heap.size w1 w2 := Below.trans (by go_grown) (d2.mono (by simp; try omega))
  have k0 : w2.cell? ⟨w1.heap.size, 0, none⟩ = some (.int .i64 0) := keepCell d2 (by go_simp)
  have qk0 := World.block_lt_of_cell? _ _ k0
  have k1 : w2.cell? ⟨w1.heap.size, 1, none⟩ = some (.int .i64 0) := keepCell d2 (by go_simp)
  have k2 : w2.cell? ⟨w1.heap.size, 2, none⟩ = some (.int .i64 0) := keepCell d2 (by go_simp)
  replace hB := belowT hB c2
  clear c2 d2
  go_wp2_with fail
  refine (WO.out _).mono ?_
  rintro e v1 ⟨rfl, rfl⟩
  go_wp2_with fail
  refine (PT.out _).mono ?_
  rintro e w3 ⟨rfl, d3⟩
  have c3 : Below w2.heap.size w2 w3 := Below.trans (by go_grown) (d3.mono (by simp; try omega))
  replace k0 := keepCell c3 k0
  replace qk0 := World.block_lt_of_cell? _ _ k0
  replace k1 := keepCell c3 k1
  replace k2 := keepCell c3 k2
  replace hB := belowT hB c3
  clear c3 d3
  go_wp2_with fail
  refine (O2.out _).mono ?_
  rintro e w4 ⟨rfl, d4⟩
  have c4 : Below w3.heap.size w3 w4 := Below.trans (by go_grown) (d4.mono (by simp; try omega))
  replace k0 := keepCell c4 k0
  replace qk0 := World.block_lt_of_cell? _ _ k0
  replace k1 := keepCell c4 k1
  replace k2 := keepCell c4 k2
  replace hB := belowT hB c4
  clear c4 d4
  go_wp2_with fail
  refine (N2.out _).mono ?_
  rintro e w5 ⟨rfl, d5⟩
  have c5 : Below w4.heap.size w4 w5 := Below.trans (by go_grown) (d5.mono (by simp; try omega))
  replace k0 := keepCell c5 k0
  replace qk0 := World.block_lt_of_cell? _ _ k0
  replace k1 := keepCell c5 k1
  replace k2 := keepCell c5 k2
  have p0 : w5.cell? ⟨w4.heap.size, 0, none⟩ = some (.int .i64 s) := keepCell d5 (by go_simp)
  have qp0 := World.block_lt_of_cell? _ _ p0
  have p1 : w5.cell? ⟨w4.heap.size, 1, none⟩ = some (.int .i64 a) := keepCell d5 (by go_simp)
  have p2 : w5.cell? ⟨w4.heap.size, 2, none⟩ = some (.int .i64 b) := keepCell d5 (by go_simp)
  replace hB := belowT hB c5
  clear c5 d5
  go_wp2_with fail
  refine (OK.out _ ?_).mono ?_
  · exact hT0.out.below (belowT hB (by go_grown))
  rintro e w6 ⟨rfl, d6⟩
  have c6 : Below w5.heap.size w5 w6 := Below.trans (by go_grown) (d6.mono (by simp; try omega))
  replace k0 := keepCell c6 k0
  replace qk0 := World.block_lt_of_cell? _ _ k0
  replace k1 := keepCell c6 k1
  replace k2 := keepCell c6 k2
  replace p0 := keepCell c6 p0
  replace qp0 := World.block_lt_of_cell? _ _ p0
  replace p1 := keepCell c6 p1
  replace p2 := keepCell c6 p2
  replace hB := belowT hB c6
  clear c6 d6
  go_wp2_with fail
  refine (cawake _ ?_).mono ?_
  · exact hT0.out.below hB
  rintro e w7 ⟨rfl, d7⟩
  have c7 : Below w6.heap.size w6 w7 := Below.trans (by go_grown) (d7.mono (by simp; try omega))
  replace k0 := keepCell c7 k0
  replace qk0 := World.block_lt_of_cell? _ _ k0
  replace k1 := keepCell c7 k1
  replace k2 := keepCell c7 k2
  replace p0 := keepCell c7 p0
  replace qp0 := World.block_lt_of_cell? _ _ p0
  replace p1 := keepCell c7 p1
  replace p2 := keepCell c7 p2
  replace hB := belowT hB c7
  clear c7 d7
  go_wp2
  go_ret
  exact ⟨rfl, hB⟩

set_option maxHeartbeats 8000000 in
set_option maxRecDepth 20000 in
theorem cellOf_size (x0 y0 r0 t s x y a b : Int) (ht : r0.tmod 13 = t) (hs : (t + 13).tmod 13 = s) (t1 : -13 < t) (t2 : t < 13)
    (O1 : ∀ w, Calls Tryd.prog 17 #[.int .i64 x0, .int .i64 y0, .int .i64 r0] w fun e w' => e = .returned (.tuple #[.agg #[.int .i64 0, .int .i64 0, .int .i64 0], .int .i64 1]) ∧ Below w.heap.size w w')
    (N1 : ∀ w, Calls Tryd.prog 24 #[.int .i64 x0, .int .i64 y0, .int .i64 r0] w fun e w' => e = .returned (.tuple #[.agg #[.int .i64 0, .int .i64 0], .bool false]) ∧ Below w.heap.size w w')
    (WO : ∀ w, Calls Tryd.prog 25 #[.int .i64 x0, .int .i64 y0] w fun e w' => e = .returned (.bool true) ∧ w' = w)
    (PT : ∀ w, Calls Tryd.prog 16 #[.int .i64 x0, .int .i64 y0] w fun e w' => e = .returned (.tuple #[.int .i64 x, .int .i64 y]) ∧ Below w.heap.size w w')
    (O2 : ∀ w, Calls Tryd.prog 17 #[.int .i64 x, .int .i64 y, .int .i64 s] w fun e w' => e = .returned (.tuple #[.agg #[.int .i64 s, .int .i64 a, .int .i64 b], .int .i64 0]) ∧ Below w.heap.size w w')
    (N2 : ∀ w, Calls Tryd.prog 26 #[.int .i64 x, .int .i64 y, .int .i64 s] w fun e w' => e = .returned (.tuple #[.agg #[.int .i64 a, .int .i64 b], .bool true]) ∧ Below w.heap.size w w')
    (OK : ∀ w, Tabs w → Calls Tryd.prog 13 #[.agg #[.int .i64 s, .int .i64 a, .int .i64 b]] w fun e w' => e = .returned (.bool true) ∧ Below w.heap.size w w')
    (w : World) (hT : Tabs w) :
    Calls Tryd.prog 7 #[.int .i64 x0, .int .i64 y0, .int .i64 r0] w fun e w' => e = .returned (.bool true) ∧ Below w.heap.size w w' := by
  replace O1 : Hid _ := O1
  replace N1 : Hid _ := N1
  replace WO : Hid _ := WO
  replace PT : Hid _ := PT
  replace O2 : Hid _ := O2
  replace N2 : Hid _ := N2
  replace OK : Hid _ := OK
  have hT0 : Hid (Tabs w) := hT
  clear hT
  go_enter Tryd.func7, Tryd.ntmps7
  go_wp2_with fail
  refine (O1.out _).mono ?_
  rintro e w1 ⟨rfl, d1⟩
  have c1 : Below w.heap.size w w1 := Below.trans (by go_grown) (d1.mono (by simp; try omega))
  have hB := c1
  clear c1 d1
  go_wp2_with fail
  refine (N1.out _).mono ?_
  rintro e w2 ⟨rfl, d2⟩
  have c2 : Below w1.heap.size w1 w2 := Below.trans (by go_grown) (d2.mono (by simp; try omega))
  have k0 : w2.cell? ⟨w1.heap.size, 0, none⟩ = some (.int .i64 0) := keepCell d2 (by go_simp)
  have qk0 := World.block_lt_of_cell? _ _ k0
  have k1 : w2.cell? ⟨w1.heap.size, 1, none⟩ = some (.int .i64 0) := keepCell d2 (by go_simp)
  have k2 : w2.cell? ⟨w1.heap.size, 2, none⟩ = some (.int .i64 0) := keepCell d2 (by go_simp)
  replace hB := belowT hB c2
  clear c2 d2
  go_wp2_with fail
  refine (WO.out _).mono ?_
  rintro e v1 ⟨rfl, rfl⟩
  go_wp2_with fail
  refine (PT.out _).mono ?_
  rintro e w3 ⟨rfl, d3⟩
  have c3 : Below w2.heap.size w2 w3 := Below.trans (by go_grown) (d3.mono (by simp; try omega))
  replace k0 := keepCell c3 k0
  replace qk0 := World.block_lt_of_cell? _ _ k0
  replace k1 := keepCell c3 k1
  replace k2 := keepCell c3 k2
  replace hB := belowT hB c3
  clear c3 d3
  go_wp2_with fail
  refine (O2.out _).mono ?_
  rintro e w4 ⟨rfl, d4⟩
  have c4 : Below w3.heap.size w3 w4 := Below.trans (by go_grown) (d4.mono (by simp; try omega))
  replace k0 := keepCell c4 k0
  replace qk0 := World.block_lt_of_cell? _ _ k0
  replace k1 := keepCell c4 k1
  replace k2 := keepCell c4 k2
  replace hB := belowT hB c4
  clear c4 d4
  go_wp2_with fail
  refine (N2.out _).mono ?_
  rintro e w5 ⟨rfl, d5⟩
  have c5 : Below w4.heap.size w4 w5 := Below.trans (by go_grown) (d5.mono (by simp; try omega))
  replace k0 := keepCell c5 k0
  replace qk0 := World.block_lt_of_cell? _ _ k0
  replace k1 := keepCell c5 k1
  replace k2 := keepCell c5 k2
  have p0 : w5.cell? ⟨w4.heap.size, 0, none⟩ = some (.int .i64 s) := keepCell d5 (by go_simp)
  have qp0 := World.block_lt_of_cell? _ _ p0
  have p1 : w5.cell? ⟨w4.heap.size, 1, none⟩ = some (.int .i64 a) := keepCell d5 (by go_simp)
  have p2 : w5.cell? ⟨w4.heap.size, 2, none⟩ = some (.int .i64 b) := keepCell d5 (by go_simp)
  replace hB := belowT hB c5
  clear c5 d5
  go_wp2_with fail
  refine (OK.out _ ?_).mono ?_
  · exact hT0.out.below (belowT hB (by go_grown))
  rintro e w6 ⟨rfl, d6⟩
  have c6 : Below w5.heap.size w5 w6 := Below.trans (by go_grown) (d6.mono (by simp; try omega))
  replace k0 := keepCell c6 k0
  replace qk0 := World.block_lt_of_cell? _ _ k0
  replace k1 := keepCell c6 k1
  replace k2 := keepCell c6 k2
  replace p0 := keepCell c6 p0
  replace qp0 := World.block_lt_of_cell? _ _ p0
  replace p1 := keepCell c6 p1
  replace p2 := keepCell c6 p2
  replace hB := belowT hB c6
  clear c6 d6
  go_wp2_with fail
  refine (cawake _ ?_).mono ?_
  · exact hT0.out.below hB
  rintro e w7 ⟨rfl, d7⟩
  have c7 : Below w6.heap.size w6 w7 := Below.trans (by go_grown) (d7.mono (by simp; try omega))
  replace k0 := keepCell c7 k0
  replace qk0 := World.block_lt_of_cell? _ _ k0
  replace k1 := keepCell c7 k1
  replace k2 := keepCell c7 k2
  replace p0 := keepCell c7 p0
  replace qp0 := World.block_lt_of_cell? _ _ p0
  replace p1 := keepCell c7 p1
  replace p2 := keepCell c7 p2
  replace hB := belowT hB c7
  clear c7 d7
  go_wp2
  go_ret
  exact ⟨rfl, hB⟩

theorem cellOf_walk (x0 y0 r0 : Int) (w : World) (hT : Tabs w) :
    Calls Tryd.prog 7 #[.int .i64 x0, .int .i64 y0, .int .i64 r0] w fun e w' => e = .returned (.bool true) ∧ Below w.heap.size w w' := by
  obtain ⟨t, s, K, ht, hs, t1, t2, hK, hr⟩ := size13 r0
  obtain ⟨x, y, hw, PT⟩ := point_any x0 y0
  obtain ⟨a, b, hn⟩ := nearest_some (dvK_box (K := K) hK).1 (nuA K x y) (nuB K x y)
  have ho := near_ok hK hr hw hn
  have O2 := cof_yes x y s K hK hr hw a b hn
  have N2 := pnear_at x y s K hK hr hw a b hn
  have OK := cok_yes s a b ho
  cases hi : inWB x0 y0 with
  | false =>
    exact cellOf_world x0 y0 r0 t s x y a b ht hs t1 t2 (cof_world x0 y0 r0 hi) (rnear_no x0 y0 r0 fun h => inWB_no hi h.1) (fun w => by rw [← hi]; exact rworld_any x0 y0 w) PT O2 N2 OK w hT
  | true =>
    have hw0 := inWB_yes hi
    by_cases h : 0 ≤ r0 ∧ r0 ≤ 12
    · obtain ⟨p, q, hm⟩ := nearest_some (dvK_box (K := (12 - r0).toNat) (by omega)).1 (nuA (12 - r0).toNat x0 y0) (nuB (12 - r0).toNat x0 y0)
      exact cellOf_yes x0 y0 r0 t s x y a b p q ht hs t1 t2 (cof_yes x0 y0 r0 _ (by omega) (by omega) hw0 p q hm) (rnear_at x0 y0 r0 _ (by omega) (by omega) hw0 p q hm) (fun w => by rw [← hi]; exact rworld_any x0 y0 w) PT O2 N2 OK w hT
    · exact cellOf_size x0 y0 r0 t s x y a b ht hs t1 t2 (cof_size x0 y0 r0 hw0 (pnear_no x0 y0 r0 fun k => h k.2)) (rnear_no x0 y0 r0 fun k => h k.2) (fun w => by rw [← hi]; exact rworld_any x0 y0 w) PT O2 N2 OK w hT
end Go.Proofs.YtnnbdlnginkldaaDoor
