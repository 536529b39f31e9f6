/-
  The law PlaneBack answers true for every point and size, in whatever memory: what is nearest to a point has a centre, which, where it lies in the world, is nearest to itself.
-/
import Derived.Test.YtchcidhcefblpaaPWidth
import Derived.Test.YtchcidhcefblpaaPCentre
import Derived.Test.YtchcidhcefblpaaPPoint
namespace Go.Proofs.Ytchcidhcefblpaa
open Go.RowKit

set_option maxHeartbeats 1000000 in
theorem back_in (x0 y0 r0 x y r a b p q t : Int) (ht : r0.tmod 13 = t) (hr : (t + 13).tmod 13 = r) (t1 : -13 < t) (t2 : t < 13)
    (PT : ∀ w, Calls Try.prog 11 #[.int .i64 x0, .int .i64 y0] w fun e w' => e = .returned (.tuple #[.int .i64 x, .int .i64 y]) ∧ Below w.heap.size w w')
    (N1 : ∀ w, Calls Try.prog 12 #[.int .i64 x, .int .i64 y, .int .i64 r] w fun e w' => e = .returned (.tuple #[.agg #[.int .i64 a, .int .i64 b], .bool true]) ∧ Below w.heap.size w w')
    (CE : ∀ w, Calls Try.prog 8 #[.agg #[.int .i64 a, .int .i64 b], .int .i64 r] w fun e w' => e = .returned (.tuple #[.int .i64 p, .int .i64 q, .bool true]) ∧ Below w.heap.size w w')
    (OK : ∀ w, Calls Try.prog 14 #[.int .i64 p, .int .i64 q] w fun e w' => e = .returned (.bool true) ∧ Below w.heap.size w w')
    (N2 : ∀ w, Calls Try.prog 12 #[.int .i64 p, .int .i64 q, .int .i64 r] w fun e w' => e = .returned (.tuple #[.agg #[.int .i64 a, .int .i64 b], .bool true]) ∧ Below w.heap.size w w') (w : World) :
    Calls Try.prog 6 #[.int .i64 x0, .int .i64 y0, .int .i64 r0] w fun e w' => e = .returned (.bool true) ∧ Below w.heap.size w w' := by
  replace PT : Hid _ := PT
  replace N1 : Hid _ := N1
  replace CE : Hid _ := CE
  replace OK : Hid _ := OK
  replace N2 : Hid _ := N2
  go_enter Try.func6, Try.ntmps6
  go_wp2_with fail
  refine (PT.out _).mono ?_
  rintro e w1 ⟨rfl, d1⟩
  have c1 : Below w.heap.size w w1 := Below.trans (by go_grown) (d1.mono (by simp; try omega))
  have hB := c1
  clear c1 d1
  go_wp2_with fail
  refine (N1.out _).mono ?_
  rintro e w2 ⟨rfl, d2⟩
  have c2 : Below w1.heap.size w1 w2 := Below.trans (by go_grown) (d2.mono (by simp; try omega))
  replace hB := belowT hB c2
  clear c2 d2
  go_wp2_with fail
  refine (CE.out _).mono ?_
  rintro e w3 ⟨rfl, d3⟩
  have c3 : Below w2.heap.size w2 w3 := Below.trans (by go_grown) (d3.mono (by simp; try omega))
  have z0 : w3.cell? ⟨w2.heap.size, 0, none⟩ = some (.int .i64 a) := keepCell d3 (by go_simp)
  have qz0 := World.block_lt_of_cell? _ _ z0
  have z1 : w3.cell? ⟨w2.heap.size, 1, none⟩ = some (.int .i64 b) := keepCell d3 (by go_simp)
  replace hB := belowT hB c3
  clear c3 d3
  go_wp2_with fail
  refine (OK.out _).mono ?_
  rintro e w4 ⟨rfl, d4⟩
  have c4 : Below w3.heap.size w3 w4 := Below.trans (by go_grown) (d4.mono (by simp; try omega))
  replace z0 := keepCell c4 z0
  replace qz0 := World.block_lt_of_cell? _ _ z0
  replace z1 := keepCell c4 z1
  replace hB := belowT hB c4
  clear c4 d4
  go_wp2_with fail
  refine (N2.out _).mono ?_
  rintro e w5 ⟨rfl, d5⟩
  have c5 : Below w4.heap.size w4 w5 := Below.trans (by go_grown) (d5.mono (by simp; try omega))
  replace z0 := keepCell c5 z0
  replace qz0 := World.block_lt_of_cell? _ _ z0
  replace z1 := keepCell c5 z1
  replace hB := belowT hB c5
  clear c5 d5
  go_wp2_with fail
  refine (awake3 _).mono ?_
  rintro e w6 ⟨rfl, d6⟩
  have c6 : Below w5.heap.size w5 w6 := Below.trans (by go_grown) (d6.mono (by simp; try omega))
  replace z0 := keepCell c6 z0
  replace qz0 := World.block_lt_of_cell? _ _ z0
  replace z1 := keepCell c6 z1
  have y0 : w6.cell? ⟨w5.heap.size, 0, none⟩ = some (.int .i64 a) := keepCell d6 (by go_simp)
  have qy0 := World.block_lt_of_cell? _ _ y0
  have y1 : w6.cell? ⟨w5.heap.size, 1, none⟩ = some (.int .i64 b) := keepCell d6 (by go_simp)
  replace hB := belowT hB c6
  clear c6 d6
  go_wp2
  go_ret
  exact ⟨rfl, hB⟩
set_option maxHeartbeats 1000000 in
theorem back_out (x0 y0 r0 x y r a b p q t : Int) (ht : r0.tmod 13 = t) (hr : (t + 13).tmod 13 = r) (t1 : -13 < t) (t2 : t < 13)
    (PT : ∀ w, Calls Try.prog 11 #[.int .i64 x0, .int .i64 y0] w fun e w' => e = .returned (.tuple #[.int .i64 x, .int .i64 y]) ∧ Below w.heap.size w w')
    (N1 : ∀ w, Calls Try.prog 12 #[.int .i64 x, .int .i64 y, .int .i64 r] w fun e w' => e = .returned (.tuple #[.agg #[.int .i64 a, .int .i64 b], .bool true]) ∧ Below w.heap.size w w')
    (CE : ∀ w, Calls Try.prog 8 #[.agg #[.int .i64 a, .int .i64 b], .int .i64 r] w fun e w' => e = .returned (.tuple #[.int .i64 p, .int .i64 q, .bool true]) ∧ Below w.heap.size w w')
    (OK : ∀ w, Calls Try.prog 14 #[.int .i64 p, .int .i64 q] w fun e w' => e = .returned (.bool false) ∧ Below w.heap.size w w') (w : World) :
    Calls Try.prog 6 #[.int .i64 x0, .int .i64 y0, .int .i64 r0] w fun e w' => e = .returned (.bool true) ∧ Below w.heap.size w w' := by
  replace PT : Hid _ := PT
  replace N1 : Hid _ := N1
  replace CE : Hid _ := CE
  replace OK : Hid _ := OK
  go_enter Try.func6, Try.ntmps6
  go_wp2_with fail
  refine (PT.out _).mono ?_
  rintro e w1 ⟨rfl, d1⟩
  have c1 : Below w.heap.size w w1 := Below.trans (by go_grown) (d1.mono (by simp; try omega))
  have hB := c1
  clear c1 d1
  go_wp2_with fail
  refine (N1.out _).mono ?_
  rintro e w2 ⟨rfl, d2⟩
  have c2 : Below w1.heap.size w1 w2 := Below.trans (by go_grown) (d2.mono (by simp; try omega))
  replace hB := belowT hB c2
  clear c2 d2
  go_wp2_with fail
  refine (CE.out _).mono ?_
  rintro e w3 ⟨rfl, d3⟩
  have c3 : Below w2.heap.size w2 w3 := Below.trans (by go_grown) (d3.mono (by simp; try omega))
  have z0 : w3.cell? ⟨w2.heap.size, 0, none⟩ = some (.int .i64 a) := keepCell d3 (by go_simp)
  have qz0 := World.block_lt_of_cell? _ _ z0
  have z1 : w3.cell? ⟨w2.heap.size, 1, none⟩ = some (.int .i64 b) := keepCell d3 (by go_simp)
  replace hB := belowT hB c3
  clear c3 d3
  go_wp2_with fail
  refine (OK.out _).mono ?_
  rintro e w4 ⟨rfl, d4⟩
  have c4 : Below w3.heap.size w3 w4 := Below.trans (by go_grown) (d4.mono (by simp; try omega))
  replace z0 := keepCell c4 z0
  replace qz0 := World.block_lt_of_cell? _ _ z0
  replace z1 := keepCell c4 z1
  replace hB := belowT hB c4
  clear c4 d4
  go_wp2_with fail
  refine (awake3 _).mono ?_
  rintro e w5 ⟨rfl, d5⟩
  have c5 : Below w4.heap.size w4 w5 := Below.trans (by go_grown) (d5.mono (by simp; try omega))
  replace z0 := keepCell c5 z0
  replace qz0 := World.block_lt_of_cell? _ _ z0
  replace z1 := keepCell c5 z1
  replace hB := belowT hB c5
  clear c5 d5
  go_wp2
  go_ret
  exact ⟨rfl, hB⟩
theorem planeBack_walk (x0 y0 r0 : Int) (w : World) :
    Calls Try.prog 6 #[.int .i64 x0, .int .i64 y0, .int .i64 r0] w fun e w' => e = .returned (.bool true) ∧ Below w.heap.size w w' := by
  obtain ⟨t, r, K, ht, hr, t1, t2, hK, hs⟩ := size13 r0
  obtain ⟨x, y, hw, PT⟩ := point_any x0 y0
  obtain ⟨a, b, hn⟩ := nearest_some (dvK_box hK).1 (nuA K x y) (nuB K x y)
  have hb := near_tame hK hw hn
  have CE := pcentre_yes a b r K hK hs ⟨by omega, by omega⟩ ⟨by omega, by omega⟩
  cases hi : inWB (poX K a b) (poY K a b) with
  | true => exact back_in x0 y0 r0 x y r a b _ _ t ht hr t1 t2 PT (pnear_at x y r K hK hs hw a b hn) CE (pok_at _ _ _ hi) (pnear_at _ _ r K hK hs (inWB_yes hi) a b (near_self hK a b)) w
  | false => exact back_out x0 y0 r0 x y r a b _ _ t ht hr t1 t2 PT (pnear_at x y r K hK hs hw a b hn) CE (pok_at _ _ _ hi) w

end Go.Proofs.Ytchcidhcefblpaa
