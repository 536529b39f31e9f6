/-
  The law CellEdge answers true for every three numbers, in whatever memory where the tables of Units and of digits hold what their texts lay: a base cell may be up to the edges of its numbers, and no further; so may all of its descendants.
-/
import Derived.Test.YtnnbdlnginkldaaDoorCSome
import Derived.Test.YtnnbdlnginkldaaDoorCAwake
namespace Go.Proofs.YtnnbdlnginkldaaDoor
open Go.RowKit

theorem edge_mask (n : Int) : bits .and .i64 n 3 = n % 4 := by
  have := i64_mask n 2 (by omega)
  simpa using this
theorem edge_bit (n : Int) : bits .and .i64 n 1 = n % 2 := by
  have := i64_mask n 1 (by omega)
  simpa using this
theorem edge_byte (n : Int) : bits .and .i64 n 255 = n % 256 := by
  have := i64_mask n 8 (by omega)
  simpa using this
theorem ok_base (a b : Int) : Ok4 0 a b ↔ (-512 ≤ a ∧ a ≤ 511) ∧ (-512 ≤ b ∧ b ≤ 511) := by
  constructor
  · intro h; exact ⟨h.2.2.2.2.1, h.2.2.2.2.2⟩
  · intro h; exact ok4_of_base (r := 0) (by omega) h.1 h.2

set_option maxHeartbeats 8000000 in
set_option maxRecDepth 20000 in
theorem cellEdge_good (a0 b0 d0 a b : Int) (ha : a0 % 4 - 514 + a0 / 4 % 2 * 1024 = a) (hb : b0 % 4 - 514 + b0 / 4 % 2 * 1024 = b) (a1 : -512 ≤ a) (a2 : a ≤ 511) (b1 : -512 ≤ b) (b2 : b ≤ 511) (w : World) (hT : Tabs w) :
    Calls Tryd.prog 4 #[.int .i64 a0, .int .i64 b0, .int .i64 d0] w fun e w' => e = .returned (.bool true) ∧ Below w.heap.size w w' := by
  have M1 := edge_mask
  have M2 := edge_bit
  have M3 := edge_byte
  have hO := (ok_base a b).2 ⟨⟨a1, a2⟩, b1, b2⟩
  have OK : Hid (∀ w, Tabs w → Calls Tryd.prog 13 #[.agg #[.int .i64 0, .int .i64 a, .int .i64 b]] w fun e w' => e = .returned (.bool true) ∧ Below w.heap.size w w') := cok_yes 0 a b hO
  have CH : Hid _ := fun w hT => ckids_yes 0 a b hO (by omega) w hT
  have DI : Hid (∀ w, Tabs w → Calls Tryd.prog 15 #[.agg #[.int .i64 0, .int .i64 a, .int .i64 b]] w fun e w' => e = .returned (.int .i64 (-1)) ∧ Below w.heap.size w w') := cdigit_top 0 a b hO rfl
  have hT0 : Hid (Tabs w) := hT
  clear hT
  have j1 : (d0 % 256 % 7).toNat < 7 := by omega
  have j2 : (d0 / 256 % 256 % 7).toNat < 7 := by omega
  have hO1 : Ok4 1 (chA ((d0 % 256 % 7).toNat : Int) a b) (chB ((d0 % 256 % 7).toNat : Int) a b) := ok4_child hO (by omega) (by omega) (by omega)
  have CK : Hid _ := fun w hT => ckids_yes 1 _ _ hO1 (by omega) w hT
  have O1 : Hid _ := fun w hT => cok_yes 1 _ _ hO1 w hT
  have hO2 := ok4_child (d := ((d0 / 256 % 256 % 7).toNat : Int)) hO1 (by omega) (by omega) (by omega)
  have eU : ups 2 (chA ((d0 / 256 % 256 % 7).toNat : Int) (chA ((d0 % 256 % 7).toNat : Int) a b) (chB ((d0 % 256 % 7).toNat : Int) a b)) (chB ((d0 / 256 % 256 % 7).toNat : Int) (chA ((d0 % 256 % 7).toNat : Int) a b) (chB ((d0 % 256 % 7).toNat : Int) a b)) = (a, b) := by
    rw [ups_child 1 (by omega) (by omega), ups_child 0 (by omega) (by omega)]; rfl
  have BA : Hid (∀ w, Tabs w → Calls Tryd.prog 11 #[.agg #[.int .i64 2, .int .i64 (chA ((d0 / 256 % 256 % 7).toNat : Int) (chA ((d0 % 256 % 7).toNat : Int) a b) (chB ((d0 % 256 % 7).toNat : Int) a b)), .int .i64 (chB ((d0 / 256 % 256 % 7).toNat : Int) (chA ((d0 % 256 % 7).toNat : Int) a b) (chB ((d0 % 256 % 7).toNat : Int) a b))]] w fun e w' => e = .returned (.tuple #[.agg #[.int .i64 0, .int .i64 a, .int .i64 b], .int .i64 0]) ∧ Below w.heap.size w w') := fun w hT => by
    have := cbase_yes 2 _ _ hO2 w hT
    rwa [show (2 : Int).toNat = 2 from rfl, eU] at this
  clear hO hO2 hO1 eU
  go_enter Tryd.func4, Tryd.ntmps4
  go_wp2_with fail
  refine (OK.out _ ?_).mono ?_
  · exact hT0.out.below (by go_grown)
  rintro e w1 ⟨rfl, d1⟩
  have c1 : Below w.heap.size w w1 := Below.trans (by go_grown) (d1.mono (by simp; try omega))
  have k0 : w1.cell? ⟨w.heap.size, 0, none⟩ = some (.int .i64 0) := keepCell d1 (by go_simp)
  have qk0 := World.block_lt_of_cell? _ _ k0
  have k1 : w1.cell? ⟨w.heap.size, 1, none⟩ = some (.int .i64 a) := keepCell d1 (by go_simp)
  have k2 : w1.cell? ⟨w.heap.size, 2, none⟩ = some (.int .i64 b) := keepCell d1 (by go_simp)
  have hB := c1
  clear c1 d1
  go_wp2_with fail
  refine (CH.out _ ?_).mono ?_
  · exact hT0.out.below hB
  rintro e w2 ⟨⟨B1, hk1, rfl, hR1⟩, d2⟩
  have c2 : Below w1.heap.size w1 w2 := Below.trans (by go_grown) (d2.mono (by simp; try omega))
  replace k0 := keepCell c2 k0
  replace qk0 := World.block_lt_of_cell? _ _ k0
  replace k1 := keepCell c2 k1
  replace k2 := keepCell c2 k2
  replace hB := belowT hB c2
  clear c2 d2
  have x0 : w2.cell? ⟨B1, (d0 % 256 % 7).toNat * 3, none⟩ = some (.int .i64 1) := by rw [(hR1 _ (by omega)).1, kidAt_all _ _ (by omega), kidG_0]; rfl
  have x1 : w2.cell? ⟨B1, (d0 % 256 % 7).toNat * 3 + 1, none⟩ = some (.int .i64 (chA ((d0 % 256 % 7).toNat : Int) a b)) := by rw [(hR1 _ (by omega)).1, kidAt_all _ _ (by omega), kidG_1]
  have x2 : w2.cell? ⟨B1, (d0 % 256 % 7).toNat * 3 + 2, none⟩ = some (.int .i64 (chB ((d0 % 256 % 7).toNat : Int) a b)) := by rw [(hR1 _ (by omega)).1, kidAt_all _ _ (by omega), kidG_2]
  clear hR1 hk1
  generalize chA ((d0 % 256 % 7).toNat : Int) a b = U at *
  generalize chB ((d0 % 256 % 7).toNat : Int) a b = V at *
  go_wp2_with fail
  refine (CK.out _ ?_).mono ?_
  · exact hT0.out.below (belowT hB (by go_grown))
  rintro e w3 ⟨⟨B2, hk2, rfl, hR2⟩, d3⟩
  have c3 : Below w2.heap.size w2 w3 := Below.trans (by go_grown) (d3.mono (by simp; try omega))
  replace k0 := keepCell c3 k0
  replace qk0 := World.block_lt_of_cell? _ _ k0
  replace k1 := keepCell c3 k1
  replace k2 := keepCell c3 k2
  have p0 : w3.cell? ⟨w2.heap.size, 0, none⟩ = some (.int .i64 1) := keepCell d3 (by go_simp)
  have qp0 := World.block_lt_of_cell? _ _ p0
  have p1 : w3.cell? ⟨w2.heap.size, 1, none⟩ = some (.int .i64 U) := keepCell d3 (by go_simp)
  have p2 : w3.cell? ⟨w2.heap.size, 2, none⟩ = some (.int .i64 V) := keepCell d3 (by go_simp)
  replace hB := belowT hB c3
  clear c3 d3
  have y0 : w3.cell? ⟨B2, (d0 / 256 % 256 % 7).toNat * 3, none⟩ = some (.int .i64 2) := by rw [(hR2 _ (by omega)).1, kidAt_all _ _ (by omega), kidG_0]; rfl
  have y1 : w3.cell? ⟨B2, (d0 / 256 % 256 % 7).toNat * 3 + 1, none⟩ = some (.int .i64 (chA ((d0 / 256 % 256 % 7).toNat : Int) U V)) := by rw [(hR2 _ (by omega)).1, kidAt_all _ _ (by omega), kidG_1]
  have y2 : w3.cell? ⟨B2, (d0 / 256 % 256 % 7).toNat * 3 + 2, none⟩ = some (.int .i64 (chB ((d0 / 256 % 256 % 7).toNat : Int) U V)) := by rw [(hR2 _ (by omega)).1, kidAt_all _ _ (by omega), kidG_2]
  clear hR2 hk2 x0 x1 x2
  generalize chA ((d0 / 256 % 256 % 7).toNat : Int) U V = R at *
  generalize chB ((d0 / 256 % 256 % 7).toNat : Int) U V = S at *
  go_wp2_with fail
  refine (BA.out _ ?_).mono ?_
  · exact hT0.out.below hB
  rintro e w4 ⟨rfl, d4⟩
  have c4 : Below w3.heap.size w3 w4 := Below.trans (by go_grown) (d4.mono (by simp; try omega))
  replace k0 := keepCell c4 k0
  replace qk0 := World.block_lt_of_cell? _ _ k0
  replace k1 := keepCell c4 k1
  replace k2 := keepCell c4 k2
  replace p0 := keepCell c4 p0
  replace qp0 := World.block_lt_of_cell? _ _ p0
  replace p1 := keepCell c4 p1
  replace p2 := keepCell c4 p2
  replace hB := belowT hB c4
  clear c4 d4
  go_wp2_with fail
  refine (O1.out _ ?_).mono ?_
  · exact hT0.out.below (belowT hB (by go_grown))
  rintro e w5 ⟨rfl, d5⟩
  have c5 : Below w4.heap.size w4 w5 := Below.trans (by go_grown) (d5.mono (by simp; try omega))
  replace k0 := keepCell c5 k0
  replace qk0 := World.block_lt_of_cell? _ _ k0
  replace k1 := keepCell c5 k1
  replace k2 := keepCell c5 k2
  replace p0 := keepCell c5 p0
  replace qp0 := World.block_lt_of_cell? _ _ p0
  replace p1 := keepCell c5 p1
  replace p2 := keepCell c5 p2
  replace hB := belowT hB c5
  clear c5 d5
  go_wp2_with fail
  refine (DI.out _ ?_).mono ?_
  · exact hT0.out.below hB
  rintro e w6 ⟨rfl, d6⟩
  have c6 : Below w5.heap.size w5 w6 := Below.trans (by go_grown) (d6.mono (by simp; try omega))
  replace k0 := keepCell c6 k0
  replace qk0 := World.block_lt_of_cell? _ _ k0
  replace k1 := keepCell c6 k1
  replace k2 := keepCell c6 k2
  replace p0 := keepCell c6 p0
  replace qp0 := World.block_lt_of_cell? _ _ p0
  replace p1 := keepCell c6 p1
  replace p2 := keepCell c6 p2
  replace hB := belowT hB c6
  clear c6 d6
  go_wp2_with fail
  refine (cawake _ ?_).mono ?_
  · exact hT0.out.below hB
  rintro e w7 ⟨rfl, d7⟩
  have c7 : Below w6.heap.size w6 w7 := Below.trans (by go_grown) (d7.mono (by simp; try omega))
  replace k0 := keepCell c7 k0
  replace qk0 := World.block_lt_of_cell? _ _ k0
  replace k1 := keepCell c7 k1
  replace k2 := keepCell c7 k2
  replace p0 := keepCell c7 p0
  replace qp0 := World.block_lt_of_cell? _ _ p0
  replace p1 := keepCell c7 p1
  replace p2 := keepCell c7 p2
  replace hB := belowT hB c7
  clear c7 d7
  go_wp2
  go_ret
  exact ⟨rfl, hB⟩

set_option maxHeartbeats 8000000 in
set_option maxRecDepth 20000 in
theorem cellEdge_a1 (a0 b0 d0 a b : Int) (ha : a0 % 4 - 514 + a0 / 4 % 2 * 1024 = a) (hb : b0 % 4 - 514 + b0 / 4 % 2 * 1024 = b) (hN : ¬ Ok4 0 a b) (q : decide (-512 ≤ a) = false) (w : World) (hT : Tabs w) :
    Calls Tryd.prog 4 #[.int .i64 a0, .int .i64 b0, .int .i64 d0] w fun e w' => e = .returned (.bool true) ∧ Below w.heap.size w w' := by
  have M1 := edge_mask
  have M2 := edge_bit
  have OK : Hid (∀ w, Tabs w → Calls Tryd.prog 13 #[.agg #[.int .i64 0, .int .i64 a, .int .i64 b]] w fun e w' => e = .returned (.bool false) ∧ Below w.heap.size w w') := cok_no 0 a b hN
  have CH : Hid _ := fun w hT => ckids_bad 0 a b hN w hT
  have hT0 : Hid (Tabs w) := hT
  clear hT hN
  go_enter Tryd.func4, Tryd.ntmps4
  go_wp2_with fail
  refine (OK.out _ ?_).mono ?_
  · exact hT0.out.below (by go_grown)
  rintro e w1 ⟨rfl, d1⟩
  have c1 : Below w.heap.size w w1 := Below.trans (by go_grown) (d1.mono (by simp; try omega))
  have k0 : w1.cell? ⟨w.heap.size, 0, none⟩ = some (.int .i64 0) := keepCell d1 (by go_simp)
  have qk0 := World.block_lt_of_cell? _ _ k0
  have k1 : w1.cell? ⟨w.heap.size, 1, none⟩ = some (.int .i64 a) := keepCell d1 (by go_simp)
  have k2 : w1.cell? ⟨w.heap.size, 2, none⟩ = some (.int .i64 b) := keepCell d1 (by go_simp)
  have hB := c1
  clear c1 d1
  go_wp2_with fail
  refine (CH.out _ ?_).mono ?_
  · exact hT0.out.below hB
  rintro e w2 ⟨rfl, d2⟩
  have c2 : Below w1.heap.size w1 w2 := Below.trans (by go_grown) (d2.mono (by simp; try omega))
  replace k0 := keepCell c2 k0
  replace qk0 := World.block_lt_of_cell? _ _ k0
  replace k1 := keepCell c2 k1
  replace k2 := keepCell c2 k2
  replace hB := belowT hB c2
  clear c2 d2
  go_wp2_with fail
  refine (cawake _ ?_).mono ?_
  · exact hT0.out.below hB
  rintro e w3 ⟨rfl, d3⟩
  have c3 : Below w2.heap.size w2 w3 := Below.trans (by go_grown) (d3.mono (by simp; try omega))
  replace k0 := keepCell c3 k0
  replace qk0 := World.block_lt_of_cell? _ _ k0
  replace k1 := keepCell c3 k1
  replace k2 := keepCell c3 k2
  replace hB := belowT hB c3
  clear c3 d3
  go_wp2
  go_ret
  exact ⟨rfl, hB⟩

set_option maxHeartbeats 8000000 in
set_option maxRecDepth 20000 in
theorem cellEdge_a2 (a0 b0 d0 a b : Int) (ha : a0 % 4 - 514 + a0 / 4 % 2 * 1024 = a) (hb : b0 % 4 - 514 + b0 / 4 % 2 * 1024 = b) (hN : ¬ Ok4 0 a b) (p1 : -512 ≤ a) (q : decide (a ≤ 511) = false) (w : World) (hT : Tabs w) :
    Calls Tryd.prog 4 #[.int .i64 a0, .int .i64 b0, .int .i64 d0] w fun e w' => e = .returned (.bool true) ∧ Below w.heap.size w w' := by
  have M1 := edge_mask
  have M2 := edge_bit
  have OK : Hid (∀ w, Tabs w → Calls Tryd.prog 13 #[.agg #[.int .i64 0, .int .i64 a, .int .i64 b]] w fun e w' => e = .returned (.bool false) ∧ Below w.heap.size w w') := cok_no 0 a b hN
  have CH : Hid _ := fun w hT => ckids_bad 0 a b hN w hT
  have hT0 : Hid (Tabs w) := hT
  clear hT hN
  go_enter Tryd.func4, Tryd.ntmps4
  go_wp2_with fail
  refine (OK.out _ ?_).mono ?_
  · exact hT0.out.below (by go_grown)
  rintro e w1 ⟨rfl, d1⟩
  have c1 : Below w.heap.size w w1 := Below.trans (by go_grown) (d1.mono (by simp; try omega))
  have k0 : w1.cell? ⟨w.heap.size, 0, none⟩ = some (.int .i64 0) := keepCell d1 (by go_simp)
  have qk0 := World.block_lt_of_cell? _ _ k0
  have k1 : w1.cell? ⟨w.heap.size, 1, none⟩ = some (.int .i64 a) := keepCell d1 (by go_simp)
  have k2 : w1.cell? ⟨w.heap.size, 2, none⟩ = some (.int .i64 b) := keepCell d1 (by go_simp)
  have hB := c1
  clear c1 d1
  go_wp2_with fail
  refine (CH.out _ ?_).mono ?_
  · exact hT0.out.below hB
  rintro e w2 ⟨rfl, d2⟩
  have c2 : Below w1.heap.size w1 w2 := Below.trans (by go_grown) (d2.mono (by simp; try omega))
  replace k0 := keepCell c2 k0
  replace qk0 := World.block_lt_of_cell? _ _ k0
  replace k1 := keepCell c2 k1
  replace k2 := keepCell c2 k2
  replace hB := belowT hB c2
  clear c2 d2
  go_wp2_with fail
  refine (cawake _ ?_).mono ?_
  · exact hT0.out.below hB
  rintro e w3 ⟨rfl, d3⟩
  have c3 : Below w2.heap.size w2 w3 := Below.trans (by go_grown) (d3.mono (by simp; try omega))
  replace k0 := keepCell c3 k0
  replace qk0 := World.block_lt_of_cell? _ _ k0
  replace k1 := keepCell c3 k1
  replace k2 := keepCell c3 k2
  replace hB := belowT hB c3
  clear c3 d3
  go_wp2
  go_ret
  exact ⟨rfl, hB⟩

set_option maxHeartbeats 8000000 in
set_option maxRecDepth 20000 in
theorem cellEdge_b1 (a0 b0 d0 a b : Int) (ha : a0 % 4 - 514 + a0 / 4 % 2 * 1024 = a) (hb : b0 % 4 - 514 + b0 / 4 % 2 * 1024 = b) (hN : ¬ Ok4 0 a b) (p1 : -512 ≤ a) (p2 : a ≤ 511) (q : decide (-512 ≤ b) = false) (w : World) (hT : Tabs w) :
    Calls Tryd.prog 4 #[.int .i64 a0, .int .i64 b0, .int .i64 d0] w fun e w' => e = .returned (.bool true) ∧ Below w.heap.size w w' := by
  have M1 := edge_mask
  have M2 := edge_bit
  have OK : Hid (∀ w, Tabs w → Calls Tryd.prog 13 #[.agg #[.int .i64 0, .int .i64 a, .int .i64 b]] w fun e w' => e = .returned (.bool false) ∧ Below w.heap.size w w') := cok_no 0 a b hN
  have CH : Hid _ := fun w hT => ckids_bad 0 a b hN w hT
  have hT0 : Hid (Tabs w) := hT
  clear hT hN
  go_enter Tryd.func4, Tryd.ntmps4
  go_wp2_with fail
  refine (OK.out _ ?_).mono ?_
  · exact hT0.out.below (by go_grown)
  rintro e w1 ⟨rfl, d1⟩
  have c1 : Below w.heap.size w w1 := Below.trans (by go_grown) (d1.mono (by simp; try omega))
  have k0 : w1.cell? ⟨w.heap.size, 0, none⟩ = some (.int .i64 0) := keepCell d1 (by go_simp)
  have qk0 := World.block_lt_of_cell? _ _ k0
  have k1 : w1.cell? ⟨w.heap.size, 1, none⟩ = some (.int .i64 a) := keepCell d1 (by go_simp)
  have k2 : w1.cell? ⟨w.heap.size, 2, none⟩ = some (.int .i64 b) := keepCell d1 (by go_simp)
  have hB := c1
  clear c1 d1
  go_wp2_with fail
  refine (CH.out _ ?_).mono ?_
  · exact hT0.out.below hB
  rintro e w2 ⟨rfl, d2⟩
  have c2 : Below w1.heap.size w1 w2 := Below.trans (by go_grown) (d2.mono (by simp; try omega))
  replace k0 := keepCell c2 k0
  replace qk0 := World.block_lt_of_cell? _ _ k0
  replace k1 := keepCell c2 k1
  replace k2 := keepCell c2 k2
  replace hB := belowT hB c2
  clear c2 d2
  go_wp2_with fail
  refine (cawake _ ?_).mono ?_
  · exact hT0.out.below hB
  rintro e w3 ⟨rfl, d3⟩
  have c3 : Below w2.heap.size w2 w3 := Below.trans (by go_grown) (d3.mono (by simp; try omega))
  replace k0 := keepCell c3 k0
  replace qk0 := World.block_lt_of_cell? _ _ k0
  replace k1 := keepCell c3 k1
  replace k2 := keepCell c3 k2
  replace hB := belowT hB c3
  clear c3 d3
  go_wp2
  go_ret
  exact ⟨rfl, hB⟩

set_option maxHeartbeats 8000000 in
set_option maxRecDepth 20000 in
theorem cellEdge_b2 (a0 b0 d0 a b : Int) (ha : a0 % 4 - 514 + a0 / 4 % 2 * 1024 = a) (hb : b0 % 4 - 514 + b0 / 4 % 2 * 1024 = b) (hN : ¬ Ok4 0 a b) (p1 : -512 ≤ a) (p2 : a ≤ 511) (p3 : -512 ≤ b) (q : decide (b ≤ 511) = false) (w : World) (hT : Tabs w) :
    Calls Tryd.prog 4 #[.int .i64 a0, .int .i64 b0, .int .i64 d0] w fun e w' => e = .returned (.bool true) ∧ Below w.heap.size w w' := by
  have M1 := edge_mask
  have M2 := edge_bit
  have OK : Hid (∀ w, Tabs w → Calls Tryd.prog 13 #[.agg #[.int .i64 0, .int .i64 a, .int .i64 b]] w fun e w' => e = .returned (.bool false) ∧ Below w.heap.size w w') := cok_no 0 a b hN
  have CH : Hid _ := fun w hT => ckids_bad 0 a b hN w hT
  have hT0 : Hid (Tabs w) := hT
  clear hT hN
  go_enter Tryd.func4, Tryd.ntmps4
  go_wp2_with fail
  refine (OK.out _ ?_).mono ?_
  · exact hT0.out.below (by go_grown)
  rintro e w1 ⟨rfl, d1⟩
  have c1 : Below w.heap.size w w1 := Below.trans (by go_grown) (d1.mono (by simp; try omega))
  have k0 : w1.cell? ⟨w.heap.size, 0, none⟩ = some (.int .i64 0) := keepCell d1 (by go_simp)
  have qk0 := World.block_lt_of_cell? _ _ k0
  have k1 : w1.cell? ⟨w.heap.size, 1, none⟩ = some (.int .i64 a) := keepCell d1 (by go_simp)
  have k2 : w1.cell? ⟨w.heap.size, 2, none⟩ = some (.int .i64 b) := keepCell d1 (by go_simp)
  have hB := c1
  clear c1 d1
  go_wp2_with fail
  refine (CH.out _ ?_).mono ?_
  · exact hT0.out.below hB
  rintro e w2 ⟨rfl, d2⟩
  have c2 : Below w1.heap.size w1 w2 := Below.trans (by go_grown) (d2.mono (by simp; try omega))
  replace k0 := keepCell c2 k0
  replace qk0 := World.block_lt_of_cell? _ _ k0
  replace k1 := keepCell c2 k1
  replace k2 := keepCell c2 k2
  replace hB := belowT hB c2
  clear c2 d2
  go_wp2_with fail
  refine (cawake _ ?_).mono ?_
  · exact hT0.out.below hB
  rintro e w3 ⟨rfl, d3⟩
  have c3 : Below w2.heap.size w2 w3 := Below.trans (by go_grown) (d3.mono (by simp; try omega))
  replace k0 := keepCell c3 k0
  replace qk0 := World.block_lt_of_cell? _ _ k0
  replace k1 := keepCell c3 k1
  replace k2 := keepCell c3 k2
  replace hB := belowT hB c3
  clear c3 d3
  go_wp2
  go_ret
  exact ⟨rfl, hB⟩

theorem cellEdge_walk (a0 b0 d0 : Int) (w : World) (hT : Tabs w) :
    Calls Tryd.prog 4 #[.int .i64 a0, .int .i64 b0, .int .i64 d0] w fun e w' => e = .returned (.bool true) ∧ Below w.heap.size w w' := by
  obtain ⟨a, ha⟩ : ∃ a, a0 % 4 - 514 + a0 / 4 % 2 * 1024 = a := ⟨_, rfl⟩
  obtain ⟨b, hb⟩ : ∃ b, b0 % 4 - 514 + b0 / 4 % 2 * 1024 = b := ⟨_, rfl⟩
  by_cases h1 : -512 ≤ a
  · by_cases h2 : a ≤ 511
    · by_cases h3 : -512 ≤ b
      · by_cases h4 : b ≤ 511
        · exact cellEdge_good a0 b0 d0 a b ha hb h1 h2 h3 h4 w hT
        · exact cellEdge_b2 a0 b0 d0 a b ha hb (fun h => h4 ((ok_base a b).1 h).2.2) h1 h2 h3 (df h4) w hT
      · exact cellEdge_b1 a0 b0 d0 a b ha hb (fun h => h3 ((ok_base a b).1 h).2.1) h1 h2 (df h3) w hT
    · exact cellEdge_a2 a0 b0 d0 a b ha hb (fun h => h2 ((ok_base a b).1 h).1.2) h1 (df h2) w hT
  · exact cellEdge_a1 a0 b0 d0 a b ha hb (fun h => h1 ((ok_base a b).1 h).1.1) (df h1) w hT
end Go.Proofs.YtnnbdlnginkldaaDoor
