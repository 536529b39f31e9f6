/-
  The law EisenRing answers true for every three numbers, in whatever memory where the package's table of Units holds what its text lays: products in any order and over sums, Norms of products, and what is turned twice.
-/
import Derived.Test.YtpncnpmikhbmnabDoorAwakeE
import Derived.Test.YtpncnpmikhbmnabDoorESmall
import Derived.Deep.RegionHeld3
import Derived.Deep.RegionWith
import Derived.Deep.Cut
namespace Go.Proofs.YtpncnpmikhbmnabDoor
open Go.RowKit

theorem norm14 {x y : Int} (x1 : -16384 < x) (x2 : x < 16384) (y1 : -16384 < y) (y2 : y < 16384) : normE x y ≤ 805306368 := by
  have h1 : (x * x).natAbs ≤ 16384 * 16384 := by rw [Int.natAbs_mul]; exact Nat.mul_le_mul (by omega) (by omega)
  have h2 : (x * y).natAbs ≤ 16384 * 16384 := by rw [Int.natAbs_mul]; exact Nat.mul_le_mul (by omega) (by omega)
  have h3 : (y * y).natAbs ≤ 16384 * 16384 := by rw [Int.natAbs_mul]; exact Nat.mul_le_mul (by omega) (by omega)
  unfold normE
  omega
theorem box14 {x y : Int} (x1 : -70000 < x) (x2 : x < 70000) (y1 : -70000 < y) (y2 : y < 70000) : -4900000000 ≤ x * y ∧ x * y ≤ 4900000000 := by
  have h : (x * y).natAbs ≤ 70000 * 70000 := by rw [Int.natAbs_mul]; exact Nat.mul_le_mul (by omega) (by omega)
  omega

set_option maxHeartbeats 2000000 in
set_option maxRecDepth 20000 in
theorem eisenRing_walk (a0 b0 c0 d0 e0 f0 : Int) (w : World) (hU : Uni w) :
    Calls Tryd.prog 5 #[.agg #[.int .i64 a0, .int .i64 b0], .agg #[.int .i64 c0, .int .i64 d0], .agg #[.int .i64 e0, .int .i64 f0]] w fun e w' => e = .returned (.bool true) ∧ Below w.heap.size w w' := by
  have T1 : Hid (∀ w, Calls Tryd.prog 11 #[.agg #[.int .i64 a0, .int .i64 b0]] w fun e w' => e = .returned (.agg #[.int .i64 (tam a0), .int .i64 (tam b0)]) ∧ Below w.heap.size w w') := tame_any a0 b0
  have T2 : Hid (∀ w, Calls Tryd.prog 11 #[.agg #[.int .i64 c0, .int .i64 d0]] w fun e w' => e = .returned (.agg #[.int .i64 (tam c0), .int .i64 (tam d0)]) ∧ Below w.heap.size w w') := tame_any c0 d0
  have T3 : Hid (∀ w, Calls Tryd.prog 11 #[.agg #[.int .i64 e0, .int .i64 f0]] w fun e w' => e = .returned (.agg #[.int .i64 (tam e0), .int .i64 (tam f0)]) ∧ Below w.heap.size w w') := tame_any e0 f0
  obtain ⟨ba1, ba2⟩ := tam_box a0
  obtain ⟨bb1, bb2⟩ := tam_box b0
  obtain ⟨bc1, bc2⟩ := tam_box c0
  obtain ⟨bd1, bd2⟩ := tam_box d0
  obtain ⟨be1, be2⟩ := tam_box e0
  obtain ⟨bf1, bf2⟩ := tam_box f0
  generalize tam a0 = a at *
  generalize tam b0 = b at *
  generalize tam c0 = c at *
  generalize tam d0 = d at *
  generalize tam e0 = e at *
  generalize tam f0 = f at *
  go_enter Tryd.func5, Tryd.ntmps5
  go_wp2_with fail
  go_cut [] from 31 (fun wc => wc.cell? ⟨w.heap.size, 0, none⟩ = some (.int .i64 a) ∧ wc.cell? ⟨w.heap.size, 1, none⟩ = some (.int .i64 b) ∧ wc.cell? ⟨w.heap.size + 1, 0, none⟩ = some (.int .i64 c) ∧ wc.cell? ⟨w.heap.size + 1, 1, none⟩ = some (.int .i64 d) ∧ wc.cell? ⟨w.heap.size + 1 + 1, 0, none⟩ = some (.int .i64 e) ∧ wc.cell? ⟨w.heap.size + 1 + 1, 1, none⟩ = some (.int .i64 f) ∧ Below w.heap.size w wc)
  case first =>
    go_region_with (first | (go_at_call_of 11 a0; refine (T1.out _).mono ?_; rintro e w9 ⟨rfl, hb⟩; obtain ⟨hc, hf⟩ := bcell hb; have hz : w.heap.size + 1 + 1 < w9.heap.size := (by have := hb.size; (try simp at this); omega); have hz1 : w.heap.size + 1 < w9.heap.size := (by omega); have hz0 : w.heap.size < w9.heap.size := (by omega); have hB : Below w.heap.size w w9 := (by first | exact Below.trans (by go_grown) (hb.mono (by simp; try omega)) | exact Below.trans (by assumption) (hb.mono (by omega)))) | (go_at_call_of 11 c0; refine (T2.out _).mono ?_; rintro e w9 ⟨rfl, hb⟩; obtain ⟨hc, hf⟩ := bcell hb; have hz : w.heap.size + 1 + 1 < w9.heap.size := (by have := hb.size; (try simp at this); omega); have hz1 : w.heap.size + 1 < w9.heap.size := (by omega); have hz0 : w.heap.size < w9.heap.size := (by omega); have hB : Below w.heap.size w w9 := (by first | exact Below.trans (by go_grown) (hb.mono (by simp; try omega)) | exact Below.trans (by assumption) (hb.mono (by omega)))) | (go_at_call_of 11 e0; refine (T3.out _).mono ?_; rintro e w9 ⟨rfl, hb⟩; obtain ⟨hc, hf⟩ := bcell hb; have hz : w.heap.size + 1 + 1 < w9.heap.size := (by have := hb.size; (try simp at this); omega); have hz1 : w.heap.size + 1 < w9.heap.size := (by omega); have hz0 : w.heap.size < w9.heap.size := (by omega); have hB : Below w.heap.size w w9 := (by first | exact Below.trans (by go_grown) (hb.mono (by simp; try omega)) | exact Below.trans (by assumption) (hb.mono (by omega))); have s0 : w9.cell? ⟨w.heap.size, 0, none⟩ = some (.int .i64 a0) := (by go_simp); have t0 : w9.frozen? ⟨w.heap.size, 0, none⟩ = false := (by go_simp); have s1 : w9.cell? ⟨w.heap.size, 1, none⟩ = some (.int .i64 b0) := (by go_simp); have t1 : w9.frozen? ⟨w.heap.size, 1, none⟩ = false := (by go_simp); have s2 : w9.cell? ⟨w.heap.size + 1, 0, none⟩ = some (.int .i64 c0) := (by go_simp); have t2 : w9.frozen? ⟨w.heap.size + 1, 0, none⟩ = false := (by go_simp); have s3 : w9.cell? ⟨w.heap.size + 1, 1, none⟩ = some (.int .i64 d0) := (by go_simp); have t3 : w9.frozen? ⟨w.heap.size + 1, 1, none⟩ = false := (by go_simp); have s4 : w9.cell? ⟨w.heap.size + 1 + 1, 0, none⟩ = some (.int .i64 e0) := (by go_simp); have t4 : w9.frozen? ⟨w.heap.size + 1 + 1, 0, none⟩ = false := (by go_simp); have s5 : w9.cell? ⟨w.heap.size + 1 + 1, 1, none⟩ = some (.int .i64 f0) := (by go_simp); have t5 : w9.frozen? ⟨w.heap.size + 1 + 1, 1, none⟩ = false := (by go_simp)))
    all_goals
      go_wp2_with fail
      go_meet
      exact ⟨store_keep (store_keep (store_keep (store_keep (store_keep (store_new s0) (by simp)) (by simp)) (by simp)) (by simp)) (by simp), store_keep (store_keep (store_keep (store_keep (store_new (store_keep s1 (by simp))) (by simp)) (by simp)) (by simp)) (by simp), store_keep (store_keep (store_keep (store_new (store_keep (store_keep s2 (by simp)) (by simp))) (by simp)) (by simp)) (by simp), store_keep (store_keep (store_new (store_keep (store_keep (store_keep s3 (by simp)) (by simp)) (by simp))) (by simp)) (by simp), store_keep (store_new (store_keep (store_keep (store_keep (store_keep s4 (by simp)) (by simp)) (by simp)) (by simp))) (by simp), store_new (store_keep (store_keep (store_keep (store_keep (store_keep s5 (by simp)) (by simp)) (by simp)) (by simp)) (by simp)), (((((hB.setCell (by simp; try omega) _).setCell (by simp; try omega) _).setCell (by simp; try omega) _).setCell (by simp; try omega) _).setCell (by simp; try omega) _).setCell (by simp; try omega) _⟩
  case rest =>
    obtain ⟨p0, p1, p2, p3, p4, p5, hB⟩ := hcut
    have qp0 := World.block_lt_of_cell? _ _ p0
    have qp2 := World.block_lt_of_cell? _ _ p2
    have qp4 := World.block_lt_of_cell? _ _ p4
    have k1 := box14 (x := a) (y := c) (by omega) (by omega) (by omega) (by omega)
    have k2 := box14 (x := b) (y := d) (by omega) (by omega) (by omega) (by omega)
    have k3 := box14 (x := a) (y := d) (by omega) (by omega) (by omega) (by omega)
    have k4 := box14 (x := b) (y := c) (by omega) (by omega) (by omega) (by omega)
    have k5 := box14 (x := a) (y := e) (by omega) (by omega) (by omega) (by omega)
    have k6 := box14 (x := b) (y := f) (by omega) (by omega) (by omega) (by omega)
    have k7 := box14 (x := a) (y := f) (by omega) (by omega) (by omega) (by omega)
    have k8 := box14 (x := b) (y := e) (by omega) (by omega) (by omega) (by omega)
    have k9 := box14 (x := a) (y := a) (by omega) (by omega) (by omega) (by omega)
    have k10 := box14 (x := a) (y := b) (by omega) (by omega) (by omega) (by omega)
    have k11 := box14 (x := b) (y := b) (by omega) (by omega) (by omega) (by omega)
    have k12 := box14 (x := c) (y := c) (by omega) (by omega) (by omega) (by omega)
    have k13 := box14 (x := c) (y := d) (by omega) (by omega) (by omega) (by omega)
    have k14 := box14 (x := d) (y := d) (by omega) (by omega) (by omega) (by omega)
    obtain ⟨X, hX⟩ : ∃ X, a * c - b * d = X := ⟨_, rfl⟩
    obtain ⟨Y, hY⟩ : ∃ Y, a * d + b * c + b * d = Y := ⟨_, rfl⟩
    obtain ⟨Z, hZ⟩ : ∃ Z, a * e - b * f = Z := ⟨_, rfl⟩
    obtain ⟨V, hV⟩ : ∃ V, a * f + b * e + b * f = V := ⟨_, rfl⟩
    obtain ⟨N, hN⟩ : ∃ N, normE a b = N := ⟨_, rfl⟩
    obtain ⟨M, hM⟩ : ∃ M, normE c d = M := ⟨_, rfl⟩
    have bN : 0 ≤ N ∧ N ≤ 805306368 := by rw [← hN]; exact ⟨norm_pos a b, norm14 (by omega) (by omega) (by omega) (by omega)⟩
    have bM : 0 ≤ M ∧ M ≤ 805306368 := by rw [← hM]; exact ⟨norm_pos c d, norm14 (by omega) (by omega) (by omega) (by omega)⟩
    have hP : normE X Y = N * M := by rw [← hX, ← hY, ← hN, ← hM]; exact norm_prod a b c d
    obtain ⟨P, hPP⟩ : ∃ P, N * M = P := ⟨_, rfl⟩
    have bP : 0 ≤ P ∧ P ≤ 648518346341351424 := by
      rw [← hPP]; exact ⟨Int.mul_nonneg bN.1 bM.1, Int.mul_le_mul bN.2 bM.2 bM.1 (by omega)⟩
    have m1 := emul_small a b c d X Y hX hY (by omega) (by omega) (by omega) (by omega) (by omega) (by omega) (by omega) (by omega) (by omega) (by omega) (by omega) (by omega)
    have m2 := emul_small c d a b X Y (by rw [Int.mul_comm c a, Int.mul_comm d b]; exact hX) (by rw [Int.mul_comm c b, Int.mul_comm d a, Int.mul_comm d b]; omega) (by omega) (by omega) (by omega) (by omega) (by omega) (by omega) (by omega) (by omega) (by omega) (by omega) (by omega) (by omega)
    have m3 := eadd_small c d e f (c + e) (d + f) rfl rfl (by omega) (by omega) (by omega) (by omega) (by omega) (by omega) (by omega) (by omega)
    have m4 := emul_small a b (c + e) (d + f) (X + Z) (Y + V) (by rw [Int.mul_add, Int.mul_add]; omega) (by rw [Int.mul_add, Int.mul_add, Int.mul_add]; omega) (by omega) (by omega) (by omega) (by omega) (by omega) (by omega) (by omega) (by omega) (by omega) (by omega) (by omega) (by omega)
    have m5 := emul_small a b e f Z V hZ hV (by omega) (by omega) (by omega) (by omega) (by omega) (by omega) (by omega) (by omega) (by omega) (by omega) (by omega) (by omega)
    have m6 := eadd_small X Y Z V (X + Z) (Y + V) rfl rfl (by omega) (by omega) (by omega) (by omega) (by omega) (by omega) (by omega) (by omega)
    have m7 := enorm_small a b N hN (by omega) (by omega) (by omega) (by omega) (by omega)
    have m8 := enorm_small c d M hM (by omega) (by omega) (by omega) (by omega) (by omega)
    have m9 := enorm_small X Y P (hP.trans hPP) (by omega) (by omega) (by omega) (by omega) (by omega)
    have m10 := econj_small a b (a + b) (-b) rfl rfl (by omega) (by omega) (by omega) (by omega)
    have m11 := econj_small (a + b) (-b) a b (by omega) (by omega) (by omega) (by omega) (by omega) (by omega)
    have m12 := emul_small a b (a + b) (-b) N 0 (by rw [← hN]; unfold normE; rw [Int.mul_add, Int.mul_neg]; omega) (by rw [Int.mul_neg, Int.mul_add, Int.mul_neg, Int.mul_comm b a]; omega) (by omega) (by omega) (by omega) (by omega) (by omega) (by omega) (by omega) (by omega) (by omega) (by omega) (by omega) (by omega)
    replace m1 : Hid _ := m1
    replace m2 : Hid _ := m2
    replace m3 : Hid _ := m3
    replace m4 : Hid _ := m4
    replace m5 : Hid _ := m5
    replace m6 : Hid _ := m6
    replace m7 : Hid _ := m7
    replace m8 : Hid _ := m8
    replace m9 : Hid _ := m9
    replace m10 : Hid _ := m10
    replace m11 : Hid _ := m11
    replace m12 : Hid _ := m12
    clear hX hY hZ hV hN hM hP k1 k2 k3 k4 k5 k6 k7 k8 k9 k10 k11 k12 k13 k14
    obtain ⟨bN1, bN2⟩ := bN
    obtain ⟨bM1, bM2⟩ := bM
    obtain ⟨bP1, bP2⟩ := bP
    go_wp2_with fail
    refine (m1.out _).mono ?_
    rintro e w1 ⟨rfl, d1⟩
    have c1 : Below wc.heap.size wc w1 := Below.trans (by go_grown) (d1.mono (by simp; try omega))
    replace p0 := keepCell c1 p0
    replace qp0 := World.block_lt_of_cell? _ _ p0
    replace p1 := keepCell c1 p1
    replace p2 := keepCell c1 p2
    replace qp2 := World.block_lt_of_cell? _ _ p2
    replace p3 := keepCell c1 p3
    replace p4 := keepCell c1 p4
    replace qp4 := World.block_lt_of_cell? _ _ p4
    replace p5 := keepCell c1 p5
    replace hB := belowT hB c1
    clear c1 d1
    go_wp2_with fail
    refine (m2.out _).mono ?_
    rintro e w2 ⟨rfl, d2⟩
    have c2 : Below w1.heap.size w1 w2 := Below.trans (by go_grown) (d2.mono (by simp; try omega))
    replace p0 := keepCell c2 p0
    replace qp0 := World.block_lt_of_cell? _ _ p0
    replace p1 := keepCell c2 p1
    replace p2 := keepCell c2 p2
    replace qp2 := World.block_lt_of_cell? _ _ p2
    replace p3 := keepCell c2 p3
    replace p4 := keepCell c2 p4
    replace qp4 := World.block_lt_of_cell? _ _ p4
    replace p5 := keepCell c2 p5
    have x0 : w2.cell? ⟨w1.heap.size, 0, none⟩ = some (.int .i64 X) := keepCell d2 (by go_simp)
    have qx0 := World.block_lt_of_cell? _ _ x0
    have x1 : w2.cell? ⟨w1.heap.size, 1, none⟩ = some (.int .i64 Y) := keepCell d2 (by go_simp)
    replace hB := belowT hB c2
    clear c2 d2
    go_wp2_with fail
    refine (m3.out _).mono ?_
    rintro e w3 ⟨rfl, d3⟩
    have c3 : Below w2.heap.size w2 w3 := Below.trans (by go_grown) (d3.mono (by simp; try omega))
    replace p0 := keepCell c3 p0
    replace qp0 := World.block_lt_of_cell? _ _ p0
    replace p1 := keepCell c3 p1
    replace p2 := keepCell c3 p2
    replace qp2 := World.block_lt_of_cell? _ _ p2
    replace p3 := keepCell c3 p3
    replace p4 := keepCell c3 p4
    replace qp4 := World.block_lt_of_cell? _ _ p4
    replace p5 := keepCell c3 p5
    replace x0 := keepCell c3 x0
    replace qx0 := World.block_lt_of_cell? _ _ x0
    replace x1 := keepCell c3 x1
    have y0 : w3.cell? ⟨w2.heap.size, 0, none⟩ = some (.int .i64 X) := keepCell d3 (by go_simp)
    have qy0 := World.block_lt_of_cell? _ _ y0
    have y1 : w3.cell? ⟨w2.heap.size, 1, none⟩ = some (.int .i64 Y) := keepCell d3 (by go_simp)
    replace hB := belowT hB c3
    clear c3 d3
    go_wp2_with fail
    refine (m4.out _).mono ?_
    rintro e w4 ⟨rfl, d4⟩
    have c4 : Below w3.heap.size w3 w4 := Below.trans (by go_grown) (d4.mono (by simp; try omega))
    replace p0 := keepCell c4 p0
    replace qp0 := World.block_lt_of_cell? _ _ p0
    replace p1 := keepCell c4 p1
    replace p2 := keepCell c4 p2
    replace qp2 := World.block_lt_of_cell? _ _ p2
    replace p3 := keepCell c4 p3
    replace p4 := keepCell c4 p4
    replace qp4 := World.block_lt_of_cell? _ _ p4
    replace p5 := keepCell c4 p5
    replace x0 := keepCell c4 x0
    replace qx0 := World.block_lt_of_cell? _ _ x0
    replace x1 := keepCell c4 x1
    replace y0 := keepCell c4 y0
    replace qy0 := World.block_lt_of_cell? _ _ y0
    replace y1 := keepCell c4 y1
    have s0 : w4.cell? ⟨w3.heap.size, 0, none⟩ = some (.int .i64 (c + e)) := keepCell d4 (by go_simp)
    have qs0 := World.block_lt_of_cell? _ _ s0
    have s1 : w4.cell? ⟨w3.heap.size, 1, none⟩ = some (.int .i64 (d + f)) := keepCell d4 (by go_simp)
    replace hB := belowT hB c4
    clear c4 d4
    go_wp2_with fail
    refine (m5.out _).mono ?_
    rintro e w5 ⟨rfl, d5⟩
    have c5 : Below w4.heap.size w4 w5 := Below.trans (by go_grown) (d5.mono (by simp; try omega))
    replace p0 := keepCell c5 p0
    replace qp0 := World.block_lt_of_cell? _ _ p0
    replace p1 := keepCell c5 p1
    replace p2 := keepCell c5 p2
    replace qp2 := World.block_lt_of_cell? _ _ p2
    replace p3 := keepCell c5 p3
    replace p4 := keepCell c5 p4
    replace qp4 := World.block_lt_of_cell? _ _ p4
    replace p5 := keepCell c5 p5
    replace x0 := keepCell c5 x0
    replace qx0 := World.block_lt_of_cell? _ _ x0
    replace x1 := keepCell c5 x1
    replace y0 := keepCell c5 y0
    replace qy0 := World.block_lt_of_cell? _ _ y0
    replace y1 := keepCell c5 y1
    replace s0 := keepCell c5 s0
    replace qs0 := World.block_lt_of_cell? _ _ s0
    replace s1 := keepCell c5 s1
    have l0 : w5.cell? ⟨w4.heap.size, 0, none⟩ = some (.int .i64 (X + Z)) := keepCell d5 (by go_simp)
    have ql0 := World.block_lt_of_cell? _ _ l0
    have l1 : w5.cell? ⟨w4.heap.size, 1, none⟩ = some (.int .i64 (Y + V)) := keepCell d5 (by go_simp)
    replace hB := belowT hB c5
    clear c5 d5
    go_wp2_with fail
    refine (m6.out _).mono ?_
    rintro e w6 ⟨rfl, d6⟩
    have c6 : Below w5.heap.size w5 w6 := Below.trans (by go_grown) (d6.mono (by simp; try omega))
    replace p0 := keepCell c6 p0
    replace qp0 := World.block_lt_of_cell? _ _ p0
    replace p1 := keepCell c6 p1
    replace p2 := keepCell c6 p2
    replace qp2 := World.block_lt_of_cell? _ _ p2
    replace p3 := keepCell c6 p3
    replace p4 := keepCell c6 p4
    replace qp4 := World.block_lt_of_cell? _ _ p4
    replace p5 := keepCell c6 p5
    replace x0 := keepCell c6 x0
    replace qx0 := World.block_lt_of_cell? _ _ x0
    replace x1 := keepCell c6 x1
    replace y0 := keepCell c6 y0
    replace qy0 := World.block_lt_of_cell? _ _ y0
    replace y1 := keepCell c6 y1
    replace s0 := keepCell c6 s0
    replace qs0 := World.block_lt_of_cell? _ _ s0
    replace s1 := keepCell c6 s1
    replace l0 := keepCell c6 l0
    replace ql0 := World.block_lt_of_cell? _ _ l0
    replace l1 := keepCell c6 l1
    have zz0 : w6.cell? ⟨w5.heap.size, 0, none⟩ = some (.int .i64 Z) := keepCell d6 (by go_simp)
    have qzz0 := World.block_lt_of_cell? _ _ zz0
    have zz1 : w6.cell? ⟨w5.heap.size, 1, none⟩ = some (.int .i64 V) := keepCell d6 (by go_simp)
    replace hB := belowT hB c6
    clear c6 d6
    go_wp2_with fail
    refine (m7.out _).mono ?_
    rintro e w7 ⟨rfl, d7⟩
    have c7 : Below w6.heap.size w6 w7 := Below.trans (by go_grown) (d7.mono (by simp; try omega))
    replace p0 := keepCell c7 p0
    replace qp0 := World.block_lt_of_cell? _ _ p0
    replace p1 := keepCell c7 p1
    replace p2 := keepCell c7 p2
    replace qp2 := World.block_lt_of_cell? _ _ p2
    replace p3 := keepCell c7 p3
    replace p4 := keepCell c7 p4
    replace qp4 := World.block_lt_of_cell? _ _ p4
    replace p5 := keepCell c7 p5
    replace x0 := keepCell c7 x0
    replace qx0 := World.block_lt_of_cell? _ _ x0
    replace x1 := keepCell c7 x1
    replace y0 := keepCell c7 y0
    replace qy0 := World.block_lt_of_cell? _ _ y0
    replace y1 := keepCell c7 y1
    replace s0 := keepCell c7 s0
    replace qs0 := World.block_lt_of_cell? _ _ s0
    replace s1 := keepCell c7 s1
    replace l0 := keepCell c7 l0
    replace ql0 := World.block_lt_of_cell? _ _ l0
    replace l1 := keepCell c7 l1
    replace zz0 := keepCell c7 zz0
    replace qzz0 := World.block_lt_of_cell? _ _ zz0
    replace zz1 := keepCell c7 zz1
    have r0 : w7.cell? ⟨w6.heap.size, 0, none⟩ = some (.int .i64 (X + Z)) := keepCell d7 (by go_simp)
    have qr0 := World.block_lt_of_cell? _ _ r0
    have r1 : w7.cell? ⟨w6.heap.size, 1, none⟩ = some (.int .i64 (Y + V)) := keepCell d7 (by go_simp)
    replace hB := belowT hB c7
    clear c7 d7
    go_wp2_with fail
    refine (m8.out _).mono ?_
    rintro e w8 ⟨rfl, d8⟩
    have c8 : Below w7.heap.size w7 w8 := Below.trans (by go_grown) (d8.mono (by simp; try omega))
    replace p0 := keepCell c8 p0
    replace qp0 := World.block_lt_of_cell? _ _ p0
    replace p1 := keepCell c8 p1
    replace p2 := keepCell c8 p2
    replace qp2 := World.block_lt_of_cell? _ _ p2
    replace p3 := keepCell c8 p3
    replace p4 := keepCell c8 p4
    replace qp4 := World.block_lt_of_cell? _ _ p4
    replace p5 := keepCell c8 p5
    replace x0 := keepCell c8 x0
    replace qx0 := World.block_lt_of_cell? _ _ x0
    replace x1 := keepCell c8 x1
    replace y0 := keepCell c8 y0
    replace qy0 := World.block_lt_of_cell? _ _ y0
    replace y1 := keepCell c8 y1
    replace s0 := keepCell c8 s0
    replace qs0 := World.block_lt_of_cell? _ _ s0
    replace s1 := keepCell c8 s1
    replace l0 := keepCell c8 l0
    replace ql0 := World.block_lt_of_cell? _ _ l0
    replace l1 := keepCell c8 l1
    replace zz0 := keepCell c8 zz0
    replace qzz0 := World.block_lt_of_cell? _ _ zz0
    replace zz1 := keepCell c8 zz1
    replace r0 := keepCell c8 r0
    replace qr0 := World.block_lt_of_cell? _ _ r0
    replace r1 := keepCell c8 r1
    replace hB := belowT hB c8
    clear c8 d8
    go_wp2_with fail
    refine (m9.out _).mono ?_
    rintro e w9 ⟨rfl, d9⟩
    have c9 : Below w8.heap.size w8 w9 := Below.trans (by go_grown) (d9.mono (by simp; try omega))
    replace p0 := keepCell c9 p0
    replace qp0 := World.block_lt_of_cell? _ _ p0
    replace p1 := keepCell c9 p1
    replace p2 := keepCell c9 p2
    replace qp2 := World.block_lt_of_cell? _ _ p2
    replace p3 := keepCell c9 p3
    replace p4 := keepCell c9 p4
    replace qp4 := World.block_lt_of_cell? _ _ p4
    replace p5 := keepCell c9 p5
    replace x0 := keepCell c9 x0
    replace qx0 := World.block_lt_of_cell? _ _ x0
    replace x1 := keepCell c9 x1
    replace y0 := keepCell c9 y0
    replace qy0 := World.block_lt_of_cell? _ _ y0
    replace y1 := keepCell c9 y1
    replace s0 := keepCell c9 s0
    replace qs0 := World.block_lt_of_cell? _ _ s0
    replace s1 := keepCell c9 s1
    replace l0 := keepCell c9 l0
    replace ql0 := World.block_lt_of_cell? _ _ l0
    replace l1 := keepCell c9 l1
    replace zz0 := keepCell c9 zz0
    replace qzz0 := World.block_lt_of_cell? _ _ zz0
    replace zz1 := keepCell c9 zz1
    replace r0 := keepCell c9 r0
    replace qr0 := World.block_lt_of_cell? _ _ r0
    replace r1 := keepCell c9 r1
    replace hB := belowT hB c9
    clear c9 d9
    go_wp2_with fail
    refine (m10.out _).mono ?_
    rintro e w10 ⟨rfl, d10⟩
    have c10 : Below w9.heap.size w9 w10 := Below.trans (by go_grown) (d10.mono (by simp; try omega))
    replace p0 := keepCell c10 p0
    replace qp0 := World.block_lt_of_cell? _ _ p0
    replace p1 := keepCell c10 p1
    replace p2 := keepCell c10 p2
    replace qp2 := World.block_lt_of_cell? _ _ p2
    replace p3 := keepCell c10 p3
    replace p4 := keepCell c10 p4
    replace qp4 := World.block_lt_of_cell? _ _ p4
    replace p5 := keepCell c10 p5
    replace x0 := keepCell c10 x0
    replace qx0 := World.block_lt_of_cell? _ _ x0
    replace x1 := keepCell c10 x1
    replace y0 := keepCell c10 y0
    replace qy0 := World.block_lt_of_cell? _ _ y0
    replace y1 := keepCell c10 y1
    replace s0 := keepCell c10 s0
    replace qs0 := World.block_lt_of_cell? _ _ s0
    replace s1 := keepCell c10 s1
    replace l0 := keepCell c10 l0
    replace ql0 := World.block_lt_of_cell? _ _ l0
    replace l1 := keepCell c10 l1
    replace zz0 := keepCell c10 zz0
    replace qzz0 := World.block_lt_of_cell? _ _ zz0
    replace zz1 := keepCell c10 zz1
    replace r0 := keepCell c10 r0
    replace qr0 := World.block_lt_of_cell? _ _ r0
    replace r1 := keepCell c10 r1
    replace hB := belowT hB c10
    clear c10 d10
    go_wp2_with fail
    refine (m11.out _).mono ?_
    rintro e w11 ⟨rfl, d11⟩
    have c11 : Below w10.heap.size w10 w11 := Below.trans (by go_grown) (d11.mono (by simp; try omega))
    replace p0 := keepCell c11 p0
    replace qp0 := World.block_lt_of_cell? _ _ p0
    replace p1 := keepCell c11 p1
    replace p2 := keepCell c11 p2
    replace qp2 := World.block_lt_of_cell? _ _ p2
    replace p3 := keepCell c11 p3
    replace p4 := keepCell c11 p4
    replace qp4 := World.block_lt_of_cell? _ _ p4
    replace p5 := keepCell c11 p5
    replace x0 := keepCell c11 x0
    replace qx0 := World.block_lt_of_cell? _ _ x0
    replace x1 := keepCell c11 x1
    replace y0 := keepCell c11 y0
    replace qy0 := World.block_lt_of_cell? _ _ y0
    replace y1 := keepCell c11 y1
    replace s0 := keepCell c11 s0
    replace qs0 := World.block_lt_of_cell? _ _ s0
    replace s1 := keepCell c11 s1
    replace l0 := keepCell c11 l0
    replace ql0 := World.block_lt_of_cell? _ _ l0
    replace l1 := keepCell c11 l1
    replace zz0 := keepCell c11 zz0
    replace qzz0 := World.block_lt_of_cell? _ _ zz0
    replace zz1 := keepCell c11 zz1
    replace r0 := keepCell c11 r0
    replace qr0 := World.block_lt_of_cell? _ _ r0
    replace r1 := keepCell c11 r1
    have t0 : w11.cell? ⟨w10.heap.size, 0, none⟩ = some (.int .i64 (a + b)) := keepCell d11 (by go_simp)
    have qt0 := World.block_lt_of_cell? _ _ t0
    have t1 : w11.cell? ⟨w10.heap.size, 1, none⟩ = some (.int .i64 (-b)) := keepCell d11 (by go_simp)
    replace hB := belowT hB c11
    clear c11 d11
    go_wp2_with fail
    refine (m12.out _).mono ?_
    rintro e w12 ⟨rfl, d12⟩
    have c12 : Below w11.heap.size w11 w12 := Below.trans (by go_grown) (d12.mono (by simp; try omega))
    replace p0 := keepCell c12 p0
    replace qp0 := World.block_lt_of_cell? _ _ p0
    replace p1 := keepCell c12 p1
    replace p2 := keepCell c12 p2
    replace qp2 := World.block_lt_of_cell? _ _ p2
    replace p3 := keepCell c12 p3
    replace p4 := keepCell c12 p4
    replace qp4 := World.block_lt_of_cell? _ _ p4
    replace p5 := keepCell c12 p5
    replace x0 := keepCell c12 x0
    replace qx0 := World.block_lt_of_cell? _ _ x0
    replace x1 := keepCell c12 x1
    replace y0 := keepCell c12 y0
    replace qy0 := World.block_lt_of_cell? _ _ y0
    replace y1 := keepCell c12 y1
    replace s0 := keepCell c12 s0
    replace qs0 := World.block_lt_of_cell? _ _ s0
    replace s1 := keepCell c12 s1
    replace l0 := keepCell c12 l0
    replace ql0 := World.block_lt_of_cell? _ _ l0
    replace l1 := keepCell c12 l1
    replace zz0 := keepCell c12 zz0
    replace qzz0 := World.block_lt_of_cell? _ _ zz0
    replace zz1 := keepCell c12 zz1
    replace r0 := keepCell c12 r0
    replace qr0 := World.block_lt_of_cell? _ _ r0
    replace r1 := keepCell c12 r1
    replace t0 := keepCell c12 t0
    replace qt0 := World.block_lt_of_cell? _ _ t0
    replace t1 := keepCell c12 t1
    have uu0 : w12.cell? ⟨w11.heap.size, 0, none⟩ = some (.int .i64 a) := keepCell d12 (by go_simp)
    have quu0 := World.block_lt_of_cell? _ _ uu0
    have uu1 : w12.cell? ⟨w11.heap.size, 1, none⟩ = some (.int .i64 b) := keepCell d12 (by go_simp)
    replace hB := belowT hB c12
    clear c12 d12
    go_wp2_with fail
    refine (awake _ ?_).mono ?_
    · exact hU.below (belowT hB (by go_grown))
    rintro e w13 ⟨rfl, d13⟩
    have c13 : Below w12.heap.size w12 w13 := Below.trans (by go_grown) (d13.mono (by simp; try omega))
    replace p0 := keepCell c13 p0
    replace qp0 := World.block_lt_of_cell? _ _ p0
    replace p1 := keepCell c13 p1
    replace p2 := keepCell c13 p2
    replace qp2 := World.block_lt_of_cell? _ _ p2
    replace p3 := keepCell c13 p3
    replace p4 := keepCell c13 p4
    replace qp4 := World.block_lt_of_cell? _ _ p4
    replace p5 := keepCell c13 p5
    replace x0 := keepCell c13 x0
    replace qx0 := World.block_lt_of_cell? _ _ x0
    replace x1 := keepCell c13 x1
    replace y0 := keepCell c13 y0
    replace qy0 := World.block_lt_of_cell? _ _ y0
    replace y1 := keepCell c13 y1
    replace s0 := keepCell c13 s0
    replace qs0 := World.block_lt_of_cell? _ _ s0
    replace s1 := keepCell c13 s1
    replace l0 := keepCell c13 l0
    replace ql0 := World.block_lt_of_cell? _ _ l0
    replace l1 := keepCell c13 l1
    replace zz0 := keepCell c13 zz0
    replace qzz0 := World.block_lt_of_cell? _ _ zz0
    replace zz1 := keepCell c13 zz1
    replace r0 := keepCell c13 r0
    replace qr0 := World.block_lt_of_cell? _ _ r0
    replace r1 := keepCell c13 r1
    replace t0 := keepCell c13 t0
    replace qt0 := World.block_lt_of_cell? _ _ t0
    replace t1 := keepCell c13 t1
    replace uu0 := keepCell c13 uu0
    replace quu0 := World.block_lt_of_cell? _ _ uu0
    replace uu1 := keepCell c13 uu1
    have qq0 : w13.cell? ⟨w12.heap.size, 0, none⟩ = some (.int .i64 N) := keepCell d13 (by go_simp)
    have qqq0 := World.block_lt_of_cell? _ _ qq0
    have qq1 : w13.cell? ⟨w12.heap.size, 1, none⟩ = some (.int .i64 0) := keepCell d13 (by go_simp)
    replace hB := belowT hB c13
    clear c13 d13
    go_wp2
    go_ret
    exact ⟨rfl, hB⟩
end Go.Proofs.YtpncnpmikhbmnabDoor
