/-
  The law PlaneMoved answers true for every point and every step of the finest lattice, in whatever memory: what is nearest moves by the same step.
-/
import Derived.Test.YtchcidhcefblpabPWidth
import Derived.Test.YtchcidhcefblpabPPoint
namespace Go.Proofs.Ytchcidhcefblpab
open Go.RowKit

set_option maxHeartbeats 1000000 in
theorem moved_in (x0 y0 a0 b0 x y a b i k : Int) (ha : a0.tmod 100000 = i) (hb : b0.tmod 100000 = k) (i1 : -100000 < i) (i2 : i < 100000) (k1 : -100000 < k) (k2 : k < 100000) (x1 : 0 ≤ x) (x2 : x < 1073741824) (y1 : 0 ≤ y) (y2 : y < 1073741824)
    (a1 : -67108864 ≤ a) (a2 : a ≤ 67108864) (b1 : -67108864 ≤ b) (b2 : b ≤ 67108864)
    (PT : ∀ w, Calls Try.prog 4 #[.int .i64 x0, .int .i64 y0] w fun e w' => e = .returned (.tuple #[.int .i64 x, .int .i64 y]) ∧ Below w.heap.size w w')
    (OK : ∀ w, Calls Try.prog 5 #[.int .i64 (x + 52 * i + 26 * k), .int .i64 (y + 45 * k)] w fun e w' => e = .returned (.bool true) ∧ Below w.heap.size w w')
    (N1 : ∀ w, Calls Try.prog 7 #[.int .i64 x, .int .i64 y, .int .i64 12] w fun e w' => e = .returned (.tuple #[.agg #[.int .i64 a, .int .i64 b], .bool true]) ∧ Below w.heap.size w w')
    (N2 : ∀ w, Calls Try.prog 7 #[.int .i64 (x + 52 * i + 26 * k), .int .i64 (y + 45 * k), .int .i64 12] w fun e w' => e = .returned (.tuple #[.agg #[.int .i64 (a + i), .int .i64 (b + k)], .bool true]) ∧ Below w.heap.size w w') (w : World) :
    Calls Try.prog 3 #[.int .i64 x0, .int .i64 y0, .int .i64 a0, .int .i64 b0] w fun e w' => e = .returned (.bool true) ∧ Below w.heap.size w w' := by
  replace PT : Hid _ := PT
  replace OK : Hid _ := OK
  replace N1 : Hid _ := N1
  replace N2 : Hid _ := N2
  go_enter Try.func3, Try.ntmps3
  go_wp2_with fail
  refine (PT.out _).mono ?_
  rintro e w1 ⟨rfl, d1⟩
  have c1 : Below w.heap.size w w1 := Below.trans (by go_grown) (d1.mono (by simp; try omega))
  have hB := c1
  clear c1 d1
  go_wp2_with fail
  refine (OK.out _).mono ?_
  rintro e w2 ⟨rfl, d2⟩
  have c2 : Below w1.heap.size w1 w2 := Below.trans (by go_grown) (d2.mono (by simp; try omega))
  replace hB := belowT hB c2
  clear c2 d2
  go_wp2_with fail
  refine (N1.out _).mono ?_
  rintro e w3 ⟨rfl, d3⟩
  have c3 : Below w2.heap.size w2 w3 := Below.trans (by go_grown) (d3.mono (by simp; try omega))
  replace hB := belowT hB c3
  clear c3 d3
  go_wp2_with fail
  refine (N2.out _).mono ?_
  rintro e w4 ⟨rfl, d4⟩
  have c4 : Below w3.heap.size w3 w4 := Below.trans (by go_grown) (d4.mono (by simp; try omega))
  have z0 : w4.cell? ⟨w3.heap.size, 0, none⟩ = some (.int .i64 a) := keepCell d4 (by go_simp)
  have qz0 := World.block_lt_of_cell? _ _ z0
  have z1 : w4.cell? ⟨w3.heap.size, 1, none⟩ = some (.int .i64 b) := keepCell d4 (by go_simp)
  replace hB := belowT hB c4
  clear c4 d4
  go_wp2_with fail
  refine (awake3 _).mono ?_
  rintro e w5 ⟨rfl, d5⟩
  have c5 : Below w4.heap.size w4 w5 := Below.trans (by go_grown) (d5.mono (by simp; try omega))
  replace z0 := keepCell c5 z0
  replace qz0 := World.block_lt_of_cell? _ _ z0
  replace z1 := keepCell c5 z1
  have y3 : w5.cell? ⟨w4.heap.size, 0, none⟩ = some (.int .i64 (a + i)) := keepCell d5 (by go_simp)
  have qy3 := World.block_lt_of_cell? _ _ y3
  have y4 : w5.cell? ⟨w4.heap.size, 1, none⟩ = some (.int .i64 (b + k)) := keepCell d5 (by go_simp)
  replace hB := belowT hB c5
  clear c5 d5
  go_wp2
  go_ret
  exact ⟨rfl, hB⟩
set_option maxHeartbeats 1000000 in
theorem moved_out (x0 y0 a0 b0 x y i k : Int) (ha : a0.tmod 100000 = i) (hb : b0.tmod 100000 = k) (i1 : -100000 < i) (i2 : i < 100000) (k1 : -100000 < k) (k2 : k < 100000) (x1 : 0 ≤ x) (x2 : x < 1073741824) (y1 : 0 ≤ y) (y2 : y < 1073741824)
    (PT : ∀ w, Calls Try.prog 4 #[.int .i64 x0, .int .i64 y0] w fun e w' => e = .returned (.tuple #[.int .i64 x, .int .i64 y]) ∧ Below w.heap.size w w')
    (OK : ∀ w, Calls Try.prog 5 #[.int .i64 (x + 52 * i + 26 * k), .int .i64 (y + 45 * k)] w fun e w' => e = .returned (.bool false) ∧ Below w.heap.size w w') (w : World) :
    Calls Try.prog 3 #[.int .i64 x0, .int .i64 y0, .int .i64 a0, .int .i64 b0] w fun e w' => e = .returned (.bool true) ∧ Below w.heap.size w w' := by
  replace PT : Hid _ := PT
  replace OK : Hid _ := OK
  go_enter Try.func3, Try.ntmps3
  go_wp2_with fail
  refine (PT.out _).mono ?_
  rintro e w1 ⟨rfl, d1⟩
  have c1 : Below w.heap.size w w1 := Below.trans (by go_grown) (d1.mono (by simp; try omega))
  have hB := c1
  clear c1 d1
  go_wp2_with fail
  refine (OK.out _).mono ?_
  rintro e w2 ⟨rfl, d2⟩
  have c2 : Below w1.heap.size w1 w2 := Below.trans (by go_grown) (d2.mono (by simp; try omega))
  replace hB := belowT hB c2
  clear c2 d2
  go_wp2_with fail
  refine (awake3 _).mono ?_
  rintro e w3 ⟨rfl, d3⟩
  have c3 : Below w2.heap.size w2 w3 := Below.trans (by go_grown) (d3.mono (by simp; try omega))
  replace hB := belowT hB c3
  clear c3 d3
  go_wp2
  go_ret
  exact ⟨rfl, hB⟩

theorem planeMoved_walk (x0 y0 a0 b0 : Int) (w : World) :
    Calls Try.prog 3 #[.int .i64 x0, .int .i64 y0, .int .i64 a0, .int .i64 b0] w fun e w' => e = .returned (.bool true) ∧ Below w.heap.size w w' := by
  obtain ⟨x, y, hw, PT⟩ := point_any x0 y0
  have bi := tmod_box a0 100000 (by omega)
  have bk := tmod_box b0 100000 (by omega)
  obtain ⟨a, b, hn⟩ := nearest_some (dvK_box (K := 0) (by omega)).1 (nuA 0 x y) (nuB 0 x y)
  have hb := near_tame (K := 0) (by omega) hw hn
  obtain ⟨x1, x2, y1, y2⟩ := id hw
  cases hi : inWB (x + 52 * a0.tmod 100000 + 26 * b0.tmod 100000) (y + 45 * b0.tmod 100000) with
  | true => exact moved_in x0 y0 a0 b0 x y a b _ _ rfl rfl bi.1 bi.2 bk.1 bk.2 x1 x2 y1 y2 hb.1 hb.2.1 hb.2.2.1 hb.2.2.2 PT (pok_at _ _ _ hi) (pnear_at x y 12 0 (by omega) (by omega) hw a b hn) (pnear_at _ _ 12 0 (by omega) (by omega) (inWB_yes hi) _ _ (near_step hn)) w
  | false => exact moved_out x0 y0 a0 b0 x y _ _ rfl rfl bi.1 bi.2 bk.1 bk.2 x1 x2 y1 y2 PT (pok_at _ _ _ hi) w

end Go.Proofs.Ytchcidhcefblpab
