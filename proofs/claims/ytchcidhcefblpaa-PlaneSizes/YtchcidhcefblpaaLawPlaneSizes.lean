/-
  The law PlaneSizes answers true for every number and size, in whatever memory: each size's centres are some of the next finer one's, and its cells seven times as large.
-/
import Derived.Test.YtchcidhcefblpaaPWidth
import Derived.Test.YtchcidhcefblpaaPCentre
import Derived.Test.YtchcidhcefblpaaPPoint
import Derived.Test.YtchcidhcefblpaaRefMul
namespace Go.Proofs.Ytchcidhcefblpaa
open Go.RowKit

theorem width13 (w : World) : Calls Try.prog 9 #[.int .i64 13] w fun e w' => e = .returned (.tuple #[.int .i64 0, .bool false]) ∧ Below w.heap.size w w' := pwidth_no 13 (by omega) w
theorem widthm1 (w : World) : Calls Try.prog 9 #[.int .i64 (-1)] w fun e w' => e = .returned (.tuple #[.int .i64 0, .bool false]) ∧ Below w.heap.size w w' := pwidth_no (-1) (by omega) w
/-- A size but the finest, made of a number. -/
theorem size12 (r : Int) : ∃ t s : Int, ∃ K : Nat, r.tmod 12 = t ∧ (t + 12).tmod 12 = s ∧ -12 < t ∧ t < 12 ∧ K ≤ 11 ∧ 12 - s = ((K + 1 : Nat) : Int) ∧ 12 - (s + 1) = (K : Int) ∧ 0 ≤ s ∧ s ≤ 11 := by
  have h := tmod_box r 12 (by omega)
  refine ⟨_, _, (11 - (r.tmod 12 + 12).tmod 12).toNat, rfl, rfl, h.1, h.2, ?_, ?_, ?_, ?_, ?_⟩
  all_goals
    generalize r.tmod 12 = t at *
    rw [Int.tmod_eq_emod_of_nonneg (by omega)]
    omega

set_option maxHeartbeats 2000000 in
theorem sizes_core (a0 b0 r0 a b c d t r p q N : Int) (ha : a0.tmod 1048576 = a) (hb : b0.tmod 1048576 = b)
    (ht : r0.tmod 12 = t) (hr : (t + 12).tmod 12 = r) (t1 : -12 < t) (t2 : t < 12) (r1 : 0 ≤ r) (r2 : r ≤ 11) (N1 : 1 ≤ N) (N2 : N ≤ 13841287201)
    (MU : ∀ w, Calls Try.prog 7 #[.agg #[.int .i64 a, .int .i64 b], .agg #[.int .i64 2, .int .i64 1]] w fun e w' => e = .returned (.tuple #[.agg #[.int .i64 c, .int .i64 d], .bool true]) ∧ Below w.heap.size w w')
    (C1 : ∀ w, Calls Try.prog 8 #[.agg #[.int .i64 a, .int .i64 b], .int .i64 r] w fun e w' => e = .returned (.tuple #[.int .i64 p, .int .i64 q, .bool true]) ∧ Below w.heap.size w w')
    (C2 : ∀ w, Calls Try.prog 8 #[.agg #[.int .i64 c, .int .i64 d], .int .i64 (r + 1)] w fun e w' => e = .returned (.tuple #[.int .i64 p, .int .i64 q, .bool true]) ∧ Below w.heap.size w w')
    (W1 : ∀ w, Calls Try.prog 9 #[.int .i64 r] w fun e w' => e = .returned (.tuple #[.int .i64 (169 * (7 * N)), .bool true]) ∧ Below w.heap.size w w')
    (W2 : ∀ w, Calls Try.prog 9 #[.int .i64 (r + 1)] w fun e w' => e = .returned (.tuple #[.int .i64 (169 * N), .bool true]) ∧ Below w.heap.size w w') (w : World) :
    Calls Try.prog 3 #[.agg #[.int .i64 a0, .int .i64 b0], .int .i64 r0] w fun e w' => e = .returned (.bool true) ∧ Below w.heap.size w w' := by
  have hk : (169 * (7 * N) == 7 * (169 * N)) = true := by rw [beq_iff_eq]; omega
  replace MU : Hid _ := MU
  replace C1 : Hid _ := C1
  replace C2 : Hid _ := C2
  replace W1 : Hid _ := W1
  replace W2 : Hid _ := W2
  go_enter Try.func3, Try.ntmps3
  go_wp2_with fail
  refine (MU.out _).mono ?_
  rintro e w1 ⟨rfl, d1⟩
  have c1 : Below w.heap.size w w1 := Below.trans (by go_grown) (d1.mono (by simp; try omega))
  have p0 : w1.cell? ⟨w.heap.size, 0, none⟩ = some (.int .i64 a) := keepCell d1 (by go_simp)
  have qp0 := World.block_lt_of_cell? _ _ p0
  have p1 : w1.cell? ⟨w.heap.size, 1, none⟩ = some (.int .i64 b) := keepCell d1 (by go_simp)
  have hB := c1
  clear c1 d1
  go_wp2_with fail
  refine (C1.out _).mono ?_
  rintro e w2 ⟨rfl, d2⟩
  have c2 : Below w1.heap.size w1 w2 := Below.trans (by go_grown) (d2.mono (by simp; try omega))
  replace p0 := keepCell c2 p0
  replace qp0 := World.block_lt_of_cell? _ _ p0
  replace p1 := keepCell c2 p1
  have z0 : w2.cell? ⟨w1.heap.size, 0, none⟩ = some (.int .i64 c) := keepCell d2 (by go_simp)
  have qz0 := World.block_lt_of_cell? _ _ z0
  have z1 : w2.cell? ⟨w1.heap.size, 1, none⟩ = some (.int .i64 d) := keepCell d2 (by go_simp)
  replace hB := belowT hB c2
  clear c2 d2
  go_wp2_with fail
  refine (C2.out _).mono ?_
  rintro e w3 ⟨rfl, d3⟩
  have c3 : Below w2.heap.size w2 w3 := Below.trans (by go_grown) (d3.mono (by simp; try omega))
  replace p0 := keepCell c3 p0
  replace qp0 := World.block_lt_of_cell? _ _ p0
  replace p1 := keepCell c3 p1
  replace z0 := keepCell c3 z0
  replace qz0 := World.block_lt_of_cell? _ _ z0
  replace z1 := keepCell c3 z1
  replace hB := belowT hB c3
  clear c3 d3
  go_wp2_with fail
  refine (W1.out _).mono ?_
  rintro e w4 ⟨rfl, d4⟩
  have c4 : Below w3.heap.size w3 w4 := Below.trans (by go_grown) (d4.mono (by simp; try omega))
  replace p0 := keepCell c4 p0
  replace qp0 := World.block_lt_of_cell? _ _ p0
  replace p1 := keepCell c4 p1
  replace z0 := keepCell c4 z0
  replace qz0 := World.block_lt_of_cell? _ _ z0
  replace z1 := keepCell c4 z1
  replace hB := belowT hB c4
  clear c4 d4
  go_wp2_with fail
  refine (W2.out _).mono ?_
  rintro e w5 ⟨rfl, d5⟩
  have c5 : Below w4.heap.size w4 w5 := Below.trans (by go_grown) (d5.mono (by simp; try omega))
  replace p0 := keepCell c5 p0
  replace qp0 := World.block_lt_of_cell? _ _ p0
  replace p1 := keepCell c5 p1
  replace z0 := keepCell c5 z0
  replace qz0 := World.block_lt_of_cell? _ _ z0
  replace z1 := keepCell c5 z1
  replace hB := belowT hB c5
  clear c5 d5
  go_wp2_with fail
  refine (width13 _).mono ?_
  rintro e w6 ⟨rfl, d6⟩
  have c6 : Below w5.heap.size w5 w6 := Below.trans (by go_grown) (d6.mono (by simp; try omega))
  replace p0 := keepCell c6 p0
  replace qp0 := World.block_lt_of_cell? _ _ p0
  replace p1 := keepCell c6 p1
  replace z0 := keepCell c6 z0
  replace qz0 := World.block_lt_of_cell? _ _ z0
  replace z1 := keepCell c6 z1
  replace hB := belowT hB c6
  clear c6 d6
  go_wp2_with fail
  refine (widthm1 _).mono ?_
  rintro e w7 ⟨rfl, d7⟩
  have c7 : Below w6.heap.size w6 w7 := Below.trans (by go_grown) (d7.mono (by simp; try omega))
  replace p0 := keepCell c7 p0
  replace qp0 := World.block_lt_of_cell? _ _ p0
  replace p1 := keepCell c7 p1
  replace z0 := keepCell c7 z0
  replace qz0 := World.block_lt_of_cell? _ _ z0
  replace z1 := keepCell c7 z1
  replace hB := belowT hB c7
  clear c7 d7
  go_wp2_with fail
  refine (awake3 _).mono ?_
  rintro e w8 ⟨rfl, d8⟩
  have c8 : Below w7.heap.size w7 w8 := Below.trans (by go_grown) (d8.mono (by simp; try omega))
  replace p0 := keepCell c8 p0
  replace qp0 := World.block_lt_of_cell? _ _ p0
  replace p1 := keepCell c8 p1
  replace z0 := keepCell c8 z0
  replace qz0 := World.block_lt_of_cell? _ _ z0
  replace z1 := keepCell c8 z1
  replace hB := belowT hB c8
  clear c8 d8
  go_wp2
  go_ret
  exact ⟨rfl, hB⟩

theorem planeSizes_walk (a0 b0 r0 : Int) (w : World) :
    Calls Try.prog 3 #[.agg #[.int .i64 a0, .int .i64 b0], .int .i64 r0] w fun e w' => e = .returned (.bool true) ∧ Below w.heap.size w w' := by
  obtain ⟨t, r, K, ht, hr, t1, t2, hK, hs, hs', r1, r2⟩ := size12 r0
  have ba := tmod_box a0 1048576 (by omega)
  have bb := tmod_box b0 1048576 (by omega)
  have hN := sev_box (K := K) (by omega)
  have hd := ct_down K (a0.tmod 1048576) (b0.tmod 1048576)
  have hv := sev_down K
  have C1 := pcentre_yes (a0.tmod 1048576) (b0.tmod 1048576) r (K + 1) (by omega) hs ⟨by omega, by omega⟩ ⟨by omega, by omega⟩
  have mA : -1073741824 ≤ mulA (a0.tmod 1048576) (b0.tmod 1048576) 2 1 ∧ mulA (a0.tmod 1048576) (b0.tmod 1048576) 2 1 ≤ 1073741824 := by unfold mulA; omega
  have mB : -1073741824 ≤ mulB (a0.tmod 1048576) (b0.tmod 1048576) 2 1 ∧ mulB (a0.tmod 1048576) (b0.tmod 1048576) 2 1 ≤ 1073741824 := by unfold mulB; omega
  have C2 := pcentre_yes _ _ (r + 1) K (by omega) hs' mA mB
  have e1 : poX (K + 1) (a0.tmod 1048576) (b0.tmod 1048576) = poX K (mulA (a0.tmod 1048576) (b0.tmod 1048576) 2 1) (mulB (a0.tmod 1048576) (b0.tmod 1048576) 2 1) := by unfold poX; rw [hd.1, hd.2]
  have e2 : poY (K + 1) (a0.tmod 1048576) (b0.tmod 1048576) = poY K (mulA (a0.tmod 1048576) (b0.tmod 1048576) 2 1) (mulB (a0.tmod 1048576) (b0.tmod 1048576) 2 1) := by unfold poY; rw [hd.2]
  rw [e1, e2] at C1
  have W1 := pwidth_yes r (K + 1) (by omega) hs
  rw [hv] at W1
  exact sizes_core a0 b0 r0 _ _ _ _ t r _ _ (sev K) rfl rfl ht hr t1 t2 r1 r2 hN.1 hN.2
    (refmul_yes _ _ 2 1 (by omega) (by omega) (by omega) (by omega) (by omega) (by omega) (by omega) (by omega) (fits_mk ⟨by omega, by omega⟩) (fits_mk ⟨by omega, by omega⟩))
    C1 C2 W1 (pwidth_yes (r + 1) K (by omega) hs') w

end Go.Proofs.Ytchcidhcefblpaa
