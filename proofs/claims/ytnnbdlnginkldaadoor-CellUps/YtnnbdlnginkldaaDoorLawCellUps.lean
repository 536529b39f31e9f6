/-
  The law CellUps answers true for every five numbers, in whatever memory where the tables of Units and of digits hold what their texts lay: going up by sizes one by one, or at once, leads to the same cell.
-/
import Derived.Test.YtnnbdlnginkldaaDoorCSome
import Derived.Test.YtnnbdlnginkldaaDoorCAwake
namespace Go.Proofs.YtnnbdlnginkldaaDoor
open Go.RowKit

/-- A number made of eight bits, by truncation: from nought to below a divisor. -/
theorem eight (n d : Int) (hd : 1 ≤ d) : ∃ m, (bits .and .i64 n 255).tmod d = m ∧ 0 ≤ m ∧ m < d := by
  have h := i64_mask n 8 (by omega)
  have h' : bits .and .i64 n 255 = n % 256 := by simpa using h
  refine ⟨_, rfl, ?_, ?_⟩
  · rw [h', Int.tmod_eq_emod_of_nonneg (by omega)]; exact Int.emod_nonneg _ (by omega)
  · rw [h', Int.tmod_eq_emod_of_nonneg (by omega)]; exact Int.emod_lt_of_pos _ (by omega)
theorem mask8 (n : Int) : bits .and .i64 n 255 = n % 256 := by
  have := i64_mask n 8 (by omega)
  simpa using this

set_option maxHeartbeats 8000000 in
set_option maxRecDepth 20000 in
theorem cellUps_walk (x y r a0 b0 : Int) (w : World) (hT : Tabs w) :
    Calls Tryd.prog 3 #[.int .i64 x, .int .i64 y, .int .i64 r, .int .i64 a0, .int .i64 b0] w fun e w' => e = .returned (.bool true) ∧ Below w.heap.size w w' := by
  obtain ⟨s, s0, s12, SO⟩ := csome_any x y r
  replace SO : Hid _ := SO
  have hT0 : Hid (Tabs w) := hT
  clear hT
  go_enter Tryd.func3, Tryd.ntmps3
  go_wp2_with fail
  refine (SO.out _).mono ?_
  rintro e w1 ⟨⟨P, Q, rfl, hO⟩, d1⟩
  have c1 : Below w.heap.size w w1 := Below.trans (by go_grown) (d1.mono (by simp; try omega))
  have hB := c1
  clear c1 d1
  obtain ⟨a, ha, a1, a2⟩ := eight a0 (s + 1) (by omega)
  obtain ⟨b, hb, b1, b2⟩ := eight b0 (a + 1) (by omega)
  have hO' : Ok4 a (ups (s - a).toNat P Q).1 (ups (s - a).toNat P Q).2 := by
    have := ok4_ups hO (s - a).toNat (by omega)
    rwa [show s - ((s - a).toNat : Int) = a by omega] at this
  have hO2 : Ok4 b (ups (s - b).toNat P Q).1 (ups (s - b).toNat P Q).2 := by
    have := ok4_ups hO (s - b).toNat (by omega)
    rwa [show s - ((s - b).toNat : Int) = b by omega] at this
  have U1 : Hid _ := fun w hT => cupto_yes s P Q a (s - a).toNat (by omega) hO a1 w hT
  have U2 : Hid (∀ w, Tabs w → Calls Tryd.prog 10 #[.agg #[.int .i64 a, .int .i64 (ups (s - a).toNat P Q).1, .int .i64 (ups (s - a).toNat P Q).2], .int .i64 b] w fun e w' => e = .returned (.tuple #[.agg #[.int .i64 b, .int .i64 (ups (s - b).toNat P Q).1, .int .i64 (ups (s - b).toNat P Q).2], .int .i64 0]) ∧ Below w.heap.size w w') := fun w hT => by
    have := cupto_yes a _ _ b (a - b).toNat (by omega) hO' b1 w hT
    rwa [← ups_add, show (s - a).toNat + (a - b).toNat = (s - b).toNat by omega] at this
  have U3 : Hid _ := fun w hT => cupto_yes s P Q b (s - b).toNat (by omega) hO b1 w hT
  have U4 : Hid _ := fun w hT => cbase_yes s P Q hO w hT
  have U5 : Hid (∀ w, Tabs w → Calls Tryd.prog 10 #[.agg #[.int .i64 b, .int .i64 (ups (s - b).toNat P Q).1, .int .i64 (ups (s - b).toNat P Q).2], .int .i64 0] w fun e w' => e = .returned (.tuple #[.agg #[.int .i64 0, .int .i64 (ups s.toNat P Q).1, .int .i64 (ups s.toNat P Q).2], .int .i64 0]) ∧ Below w.heap.size w w') := fun w hT => by
    have := cupto_yes b _ _ 0 b.toNat (by omega) hO2 (by omega) w hT
    rwa [← ups_add, show (s - b).toNat + b.toNat = s.toNat by omega] at this
  have U6 : Hid _ := fun w hT => cupto_arg s P Q (s + 1) hO (by omega) w hT
  have U7 : Hid _ := fun w hT => cupto_arg s P Q (-1) hO (by omega) w hT
  clear hO hO' hO2
  generalize (ups (s - a).toNat P Q).1 = A1 at *
  generalize (ups (s - a).toNat P Q).2 = A2 at *
  generalize (ups (s - b).toNat P Q).1 = B1 at *
  generalize (ups (s - b).toNat P Q).2 = B2 at *
  generalize (ups s.toNat P Q).1 = C1 at *
  generalize (ups s.toNat P Q).2 = C2 at *
  go_wp2_with fail
  refine (U1.out _ ?_).mono ?_
  · exact hT0.out.below (belowT hB (by go_grown))
  rintro e w2 ⟨rfl, d2⟩
  have c2 : Below w1.heap.size w1 w2 := Below.trans (by go_grown) (d2.mono (by simp; try omega))
  have k0 : w2.cell? ⟨w1.heap.size, 0, none⟩ = some (.int .i64 s) := keepCell d2 (by go_simp)
  have qk0 := World.block_lt_of_cell? _ _ k0
  have k1 : w2.cell? ⟨w1.heap.size, 1, none⟩ = some (.int .i64 P) := keepCell d2 (by go_simp)
  have k2 : w2.cell? ⟨w1.heap.size, 2, none⟩ = some (.int .i64 Q) := keepCell d2 (by go_simp)
  replace hB := belowT hB c2
  clear c2 d2
  go_wp2_with fail
  refine (U2.out _ ?_).mono ?_
  · exact hT0.out.below (belowT hB (by go_grown))
  rintro e w3 ⟨rfl, d3⟩
  have c3 : Below w2.heap.size w2 w3 := Below.trans (by go_grown) (d3.mono (by simp; try omega))
  replace k0 := keepCell c3 k0
  replace qk0 := World.block_lt_of_cell? _ _ k0
  replace k1 := keepCell c3 k1
  replace k2 := keepCell c3 k2
  have u0 : w3.cell? ⟨w2.heap.size, 0, none⟩ = some (.int .i64 a) := keepCell d3 (by go_simp)
  have qu0 := World.block_lt_of_cell? _ _ u0
  replace hB := belowT hB c3
  clear c3 d3
  go_wp2_with fail
  refine (U3.out _ ?_).mono ?_
  · exact hT0.out.below (belowT hB (by go_grown))
  rintro e w4 ⟨rfl, d4⟩
  have c4 : Below w3.heap.size w3 w4 := Below.trans (by go_grown) (d4.mono (by simp; try omega))
  replace k0 := keepCell c4 k0
  replace qk0 := World.block_lt_of_cell? _ _ k0
  replace k1 := keepCell c4 k1
  replace k2 := keepCell c4 k2
  replace u0 := keepCell c4 u0
  replace qu0 := World.block_lt_of_cell? _ _ u0
  have v0 : w4.cell? ⟨w3.heap.size, 0, none⟩ = some (.int .i64 b) := keepCell d4 (by go_simp)
  have qv0 := World.block_lt_of_cell? _ _ v0
  have v1 : w4.cell? ⟨w3.heap.size, 1, none⟩ = some (.int .i64 B1) := keepCell d4 (by go_simp)
  have v2 : w4.cell? ⟨w3.heap.size, 2, none⟩ = some (.int .i64 B2) := keepCell d4 (by go_simp)
  replace hB := belowT hB c4
  clear c4 d4
  go_wp2_with fail
  refine (U4.out _ ?_).mono ?_
  · exact hT0.out.below (belowT hB (by go_grown))
  rintro e w5 ⟨rfl, d5⟩
  have c5 : Below w4.heap.size w4 w5 := Below.trans (by go_grown) (d5.mono (by simp; try omega))
  replace k0 := keepCell c5 k0
  replace qk0 := World.block_lt_of_cell? _ _ k0
  replace k1 := keepCell c5 k1
  replace k2 := keepCell c5 k2
  replace u0 := keepCell c5 u0
  replace qu0 := World.block_lt_of_cell? _ _ u0
  replace v0 := keepCell c5 v0
  replace qv0 := World.block_lt_of_cell? _ _ v0
  replace v1 := keepCell c5 v1
  replace v2 := keepCell c5 v2
  have q0 : w5.cell? ⟨w4.heap.size, 0, none⟩ = some (.int .i64 b) := keepCell d5 (by go_simp)
  have qq0 := World.block_lt_of_cell? _ _ q0
  have q1 : w5.cell? ⟨w4.heap.size, 1, none⟩ = some (.int .i64 B1) := keepCell d5 (by go_simp)
  have q2 : w5.cell? ⟨w4.heap.size, 2, none⟩ = some (.int .i64 B2) := keepCell d5 (by go_simp)
  replace hB := belowT hB c5
  clear c5 d5
  go_wp2_with fail
  refine (U5.out _ ?_).mono ?_
  · exact hT0.out.below (belowT hB (by go_grown))
  rintro e w6 ⟨rfl, d6⟩
  have c6 : Below w5.heap.size w5 w6 := Below.trans (by go_grown) (d6.mono (by simp; try omega))
  replace k0 := keepCell c6 k0
  replace qk0 := World.block_lt_of_cell? _ _ k0
  replace k1 := keepCell c6 k1
  replace k2 := keepCell c6 k2
  replace u0 := keepCell c6 u0
  replace qu0 := World.block_lt_of_cell? _ _ u0
  replace v0 := keepCell c6 v0
  replace qv0 := World.block_lt_of_cell? _ _ v0
  replace v1 := keepCell c6 v1
  replace v2 := keepCell c6 v2
  replace q0 := keepCell c6 q0
  replace qq0 := World.block_lt_of_cell? _ _ q0
  replace q1 := keepCell c6 q1
  replace q2 := keepCell c6 q2
  have t0 : w6.cell? ⟨w5.heap.size, 0, none⟩ = some (.int .i64 0) := keepCell d6 (by go_simp)
  have qt0 := World.block_lt_of_cell? _ _ t0
  have t1 : w6.cell? ⟨w5.heap.size, 1, none⟩ = some (.int .i64 C1) := keepCell d6 (by go_simp)
  have t2 : w6.cell? ⟨w5.heap.size, 2, none⟩ = some (.int .i64 C2) := keepCell d6 (by go_simp)
  replace hB := belowT hB c6
  clear c6 d6
  go_wp2_with fail
  refine (U6.out _ ?_).mono ?_
  · exact hT0.out.below (belowT hB (by go_grown))
  rintro e w7 ⟨rfl, d7⟩
  have c7 : Below w6.heap.size w6 w7 := Below.trans (by go_grown) (d7.mono (by simp; try omega))
  replace k0 := keepCell c7 k0
  replace qk0 := World.block_lt_of_cell? _ _ k0
  replace k1 := keepCell c7 k1
  replace k2 := keepCell c7 k2
  replace u0 := keepCell c7 u0
  replace qu0 := World.block_lt_of_cell? _ _ u0
  replace v0 := keepCell c7 v0
  replace qv0 := World.block_lt_of_cell? _ _ v0
  replace v1 := keepCell c7 v1
  replace v2 := keepCell c7 v2
  replace q0 := keepCell c7 q0
  replace qq0 := World.block_lt_of_cell? _ _ q0
  replace q1 := keepCell c7 q1
  replace q2 := keepCell c7 q2
  replace t0 := keepCell c7 t0
  replace qt0 := World.block_lt_of_cell? _ _ t0
  replace t1 := keepCell c7 t1
  replace t2 := keepCell c7 t2
  have p0 : w7.cell? ⟨w6.heap.size, 0, none⟩ = some (.int .i64 0) := keepCell d7 (by go_simp)
  have qp0 := World.block_lt_of_cell? _ _ p0
  have p1 : w7.cell? ⟨w6.heap.size, 1, none⟩ = some (.int .i64 C1) := keepCell d7 (by go_simp)
  have p2 : w7.cell? ⟨w6.heap.size, 2, none⟩ = some (.int .i64 C2) := keepCell d7 (by go_simp)
  replace hB := belowT hB c7
  clear c7 d7
  go_wp2_with fail
  refine (U7.out _ ?_).mono ?_
  · exact hT0.out.below (belowT hB (by go_grown))
  rintro e w8 ⟨rfl, d8⟩
  have c8 : Below w7.heap.size w7 w8 := Below.trans (by go_grown) (d8.mono (by simp; try omega))
  replace k0 := keepCell c8 k0
  replace qk0 := World.block_lt_of_cell? _ _ k0
  replace k1 := keepCell c8 k1
  replace k2 := keepCell c8 k2
  replace u0 := keepCell c8 u0
  replace qu0 := World.block_lt_of_cell? _ _ u0
  replace v0 := keepCell c8 v0
  replace qv0 := World.block_lt_of_cell? _ _ v0
  replace v1 := keepCell c8 v1
  replace v2 := keepCell c8 v2
  replace q0 := keepCell c8 q0
  replace qq0 := World.block_lt_of_cell? _ _ q0
  replace q1 := keepCell c8 q1
  replace q2 := keepCell c8 q2
  replace t0 := keepCell c8 t0
  replace qt0 := World.block_lt_of_cell? _ _ t0
  replace t1 := keepCell c8 t1
  replace t2 := keepCell c8 t2
  replace p0 := keepCell c8 p0
  replace qp0 := World.block_lt_of_cell? _ _ p0
  replace p1 := keepCell c8 p1
  replace p2 := keepCell c8 p2
  replace hB := belowT hB c8
  clear c8 d8
  go_wp2_with fail
  refine (cawake _ ?_).mono ?_
  · exact hT0.out.below (belowT hB (by go_grown))
  rintro e w9 ⟨rfl, d9⟩
  have c9 : Below w8.heap.size w8 w9 := Below.trans (by go_grown) (d9.mono (by simp; try omega))
  replace k0 := keepCell c9 k0
  replace qk0 := World.block_lt_of_cell? _ _ k0
  replace k1 := keepCell c9 k1
  replace k2 := keepCell c9 k2
  replace u0 := keepCell c9 u0
  replace qu0 := World.block_lt_of_cell? _ _ u0
  replace v0 := keepCell c9 v0
  replace qv0 := World.block_lt_of_cell? _ _ v0
  replace v1 := keepCell c9 v1
  replace v2 := keepCell c9 v2
  replace q0 := keepCell c9 q0
  replace qq0 := World.block_lt_of_cell? _ _ q0
  replace q1 := keepCell c9 q1
  replace q2 := keepCell c9 q2
  replace t0 := keepCell c9 t0
  replace qt0 := World.block_lt_of_cell? _ _ t0
  replace t1 := keepCell c9 t1
  replace t2 := keepCell c9 t2
  replace p0 := keepCell c9 p0
  replace qp0 := World.block_lt_of_cell? _ _ p0
  replace p1 := keepCell c9 p1
  replace p2 := keepCell c9 p2
  replace hB := belowT hB c9
  clear c9 d9
  go_wp2
  go_ret
  exact ⟨rfl, hB⟩
end Go.Proofs.YtnnbdlnginkldaaDoor
