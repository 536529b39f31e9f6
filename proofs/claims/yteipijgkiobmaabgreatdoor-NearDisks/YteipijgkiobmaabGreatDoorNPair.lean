/-
  What Distance of package near tells of any two words, and the pair of cells behind it: the steps from cell to cell; what is refused; in whatever memory where both tables hold what their texts lay.
-/
import Derived.Test.YteipijgkiobmaabGreatDoorNB2
import Derived.Test.YteipijgkiobmaabGreatDoorNB6
import Derived.Test.YteipijgkiobmaabGreatDoorNB7
import Derived.Test.YteipijgkiobmaabGreatDoorURow
namespace Go.Proofs.YteipijgkiobmaabGreatDoor
open Go.RowKit

theorem most_stp (a b : Int) : mostN a b 3 = stp a b := rfl
theorem esteps_stp (a b : Int) (a1 : -4000000000 ≤ a) (a2 : a ≤ 4000000000) (b1 : -4000000000 ≤ b) (b2 : b ≤ 4000000000) (w : World) :
    Calls Tryz.prog 32 #[.agg #[.int .i64 a, .int .i64 b]] w fun e w' => e = .returned (.tuple #[.int .i64 (stp a b), .bool true]) ∧ Below w.heap.size w w' := by
  refine (esteps_see a b (by omega) (by omega) (by omega) (by omega) w).mono fun e w' ⟨he, hb⟩ => ⟨?_, hb⟩
  rcases he with ⟨_, he⟩ | ⟨hn, _⟩
  · exact he
  · exfalso
    refine hn fun j hj => ?_
    have cj : j = 0 ∨ j = 1 ∨ j = 2 := by omega
    rcases cj with rfl | rfl | rfl
    · show _ < a ∧ a ≤ _; omega
    · show _ < b ∧ b ≤ _; omega
    · show _ < a + b ∧ a + b ≤ _; omega

/-- Which error a pair of words has. -/
def PairNo (v u t : Int) : Prop := (¬ Whole v ∧ t = 5) ∨ (Whole v ∧ ¬ Whole u ∧ t = 5) ∨ (Whole v ∧ Whole u ∧ wR v ≠ wR u ∧ t = 8)

theorem seven_stores {w : World} {b : Nat} {x0 x1 x2 x3 x4 x5 x6 u0 u1 u2 u3 u4 u5 u6 : Value} (h0 : w.cell? ⟨b, 0, none⟩ = some x0) (h1 : w.cell? ⟨b, 1, none⟩ = some x1) (h2 : w.cell? ⟨b, 2, none⟩ = some x2) (h3 : w.cell? ⟨b, 3, none⟩ = some x3) (h4 : w.cell? ⟨b, 4, none⟩ = some x4) (h5 : w.cell? ⟨b, 5, none⟩ = some x5) (h6 : w.cell? ⟨b, 6, none⟩ = some x6) :
    ∃ z, z = (((((((w.setCell ⟨b, 0, none⟩ u0).setCell ⟨b, 1, none⟩ u1).setCell ⟨b, 2, none⟩ u2).setCell ⟨b, 3, none⟩ u3).setCell ⟨b, 4, none⟩ u4).setCell ⟨b, 5, none⟩ u5).setCell ⟨b, 6, none⟩ u6) ∧
      z.cell? ⟨b, 0, none⟩ = some u0 ∧ z.cell? ⟨b, 1, none⟩ = some u1 ∧ z.cell? ⟨b, 2, none⟩ = some u2 ∧ z.cell? ⟨b, 3, none⟩ = some u3 ∧ z.cell? ⟨b, 4, none⟩ = some u4 ∧ z.cell? ⟨b, 5, none⟩ = some u5 ∧ z.cell? ⟨b, 6, none⟩ = some u6 :=
  ⟨_, rfl, store_keep (store_keep (store_keep (store_keep (store_keep (store_keep (store_new h0) (by simp)) (by simp)) (by simp)) (by simp)) (by simp)) (by simp),
    store_keep (store_keep (store_keep (store_keep (store_keep (store_new (store_keep h1 (by simp))) (by simp)) (by simp)) (by simp)) (by simp)) (by simp),
    store_keep (store_keep (store_keep (store_keep (store_new (store_keep (store_keep h2 (by simp)) (by simp))) (by simp)) (by simp)) (by simp)) (by simp),
    store_keep (store_keep (store_keep (store_new (store_keep (store_keep (store_keep h3 (by simp)) (by simp)) (by simp))) (by simp)) (by simp)) (by simp),
    store_keep (store_keep (store_new (store_keep (store_keep (store_keep (store_keep h4 (by simp)) (by simp)) (by simp)) (by simp))) (by simp)) (by simp),
    store_keep (store_new (store_keep (store_keep (store_keep (store_keep (store_keep h5 (by simp)) (by simp)) (by simp)) (by simp)) (by simp))) (by simp),
    store_new (store_keep (store_keep (store_keep (store_keep (store_keep (store_keep h6 (by simp)) (by simp)) (by simp)) (by simp)) (by simp)) (by simp))⟩

set_option maxHeartbeats 8000000 in
set_option maxRecDepth 20000 in
theorem npair_yes (v u : Int) (hv : Whole v) (hu : Whole u) (hr : wR u = wR v) (w : World) (hT : Tabs w) :
    Calls Tryz.prog 16 #[.int .u64 v, .int .u64 u] w fun e w' => e = .returned (.tuple #[.agg #[.int .i64 (wR v), .int .i64 (cellA v), .int .i64 (cellB v), .int .i64 (wR v), .int .i64 (cellA u), .int .i64 (cellB u), .int .i64 (stp (cellA u - cellA v) (cellB u - cellB v))], .int .i64 0]) ∧ Below w.heap.size w w' := by
  have I1 := hidd (icell_yes v hv)
  have I2 := hidd (icell_yes u hu)
  have p1 := ok4_part (cell_ok hv)
  have p2 := ok4_part (cell_ok hu)
  rw [hr] at I2
  have hT0 : Hid (Tabs w) := hT
  clear hv hu hr hT
  generalize cellA v = a at *
  generalize cellB v = b at *
  generalize cellA u = c at *
  generalize cellB u = d at *
  generalize wR v = R at *
  have SU := hidd (esub_small c d a b _ _ rfl rfl (by omega) (by omega) (by omega) (by omega) (by omega) (by omega) (by omega) (by omega))
  have ST := hidd (esteps_stp (c - a) (d - b) (by omega) (by omega) (by omega) (by omega))
  generalize stp (c - a) (d - b) = n at *
  generalize c - a = X at *
  generalize d - b = Y at *
  clear p1 p2
  go_enter Tryz.func16, Tryz.ntmps16
  go_wp2_with fail
  refine (I1.out _ ?_).mono ?_
  · exact hT0.out.below (by go_grown)
  rintro e w1 ⟨rfl, d1⟩
  have c1 : Below w.heap.size w w1 := Below.trans (by go_grown) (d1.mono (by simp; try omega))
  have z0 : w1.cell? ⟨w.heap.size, 0, none⟩ = some (.int .i64 0) := keepCell d1 (by go_simp)
  have fz0 : w1.frozen? ⟨w.heap.size, 0, none⟩ = false := keepFrozen (v := .int .i64 0) d1 (by go_simp) (by go_simp)
  have qz0 := World.block_lt_of_cell? _ _ z0
  have z1 : w1.cell? ⟨w.heap.size, 1, none⟩ = some (.int .i64 0) := keepCell d1 (by go_simp)
  have fz1 : w1.frozen? ⟨w.heap.size, 1, none⟩ = false := keepFrozen (v := .int .i64 0) d1 (by go_simp) (by go_simp)
  have z2 : w1.cell? ⟨w.heap.size, 2, none⟩ = some (.int .i64 0) := keepCell d1 (by go_simp)
  have fz2 : w1.frozen? ⟨w.heap.size, 2, none⟩ = false := keepFrozen (v := .int .i64 0) d1 (by go_simp) (by go_simp)
  have z3 : w1.cell? ⟨w.heap.size, 3, none⟩ = some (.int .i64 0) := keepCell d1 (by go_simp)
  have fz3 : w1.frozen? ⟨w.heap.size, 3, none⟩ = false := keepFrozen (v := .int .i64 0) d1 (by go_simp) (by go_simp)
  have z4 : w1.cell? ⟨w.heap.size, 4, none⟩ = some (.int .i64 0) := keepCell d1 (by go_simp)
  have fz4 : w1.frozen? ⟨w.heap.size, 4, none⟩ = false := keepFrozen (v := .int .i64 0) d1 (by go_simp) (by go_simp)
  have z5 : w1.cell? ⟨w.heap.size, 5, none⟩ = some (.int .i64 0) := keepCell d1 (by go_simp)
  have fz5 : w1.frozen? ⟨w.heap.size, 5, none⟩ = false := keepFrozen (v := .int .i64 0) d1 (by go_simp) (by go_simp)
  have z6 : w1.cell? ⟨w.heap.size, 6, none⟩ = some (.int .i64 0) := keepCell d1 (by go_simp)
  have fz6 : w1.frozen? ⟨w.heap.size, 6, none⟩ = false := keepFrozen (v := .int .i64 0) d1 (by go_simp) (by go_simp)
  have hB := c1
  clear c1 d1
  have hT1 := hidd (hT0.out.below hB)
  go_wp2_with fail
  refine (I2.out _ ?_).mono ?_
  · exact hT1.out.below (by go_grown)
  rintro e w2 ⟨rfl, d2⟩
  have c2 : Below w1.heap.size w1 w2 := Below.trans (by go_grown) (d2.mono (by simp; try omega))
  replace fz0 := keepFrozen c2 z0 fz0
  replace z0 := keepCell c2 z0
  replace qz0 := World.block_lt_of_cell? _ _ z0
  replace fz1 := keepFrozen c2 z1 fz1
  replace z1 := keepCell c2 z1
  replace fz2 := keepFrozen c2 z2 fz2
  replace z2 := keepCell c2 z2
  replace fz3 := keepFrozen c2 z3 fz3
  replace z3 := keepCell c2 z3
  replace fz4 := keepFrozen c2 z4 fz4
  replace z4 := keepCell c2 z4
  replace fz5 := keepFrozen c2 z5 fz5
  replace z5 := keepCell c2 z5
  replace fz6 := keepFrozen c2 z6 fz6
  replace z6 := keepCell c2 z6
  have f0 : w2.cell? ⟨w1.heap.size, 0, none⟩ = some (.int .i64 R) := keepCell d2 (by go_simp)
  have qf0 := World.block_lt_of_cell? _ _ f0
  have f1 : w2.cell? ⟨w1.heap.size, 1, none⟩ = some (.int .i64 a) := keepCell d2 (by go_simp)
  have f2 : w2.cell? ⟨w1.heap.size, 2, none⟩ = some (.int .i64 b) := keepCell d2 (by go_simp)
  replace hB := belowT hB c2
  clear c2 d2
  go_wp2_with fail
  refine (SU.out _).mono ?_
  rintro e w3 ⟨rfl, d3⟩
  have c3 : Below w2.heap.size w2 w3 := Below.trans (by go_grown) (d3.mono (by simp; try omega))
  replace fz0 := keepFrozen c3 z0 fz0
  replace z0 := keepCell c3 z0
  replace qz0 := World.block_lt_of_cell? _ _ z0
  replace fz1 := keepFrozen c3 z1 fz1
  replace z1 := keepCell c3 z1
  replace fz2 := keepFrozen c3 z2 fz2
  replace z2 := keepCell c3 z2
  replace fz3 := keepFrozen c3 z3 fz3
  replace z3 := keepCell c3 z3
  replace fz4 := keepFrozen c3 z4 fz4
  replace z4 := keepCell c3 z4
  replace fz5 := keepFrozen c3 z5 fz5
  replace z5 := keepCell c3 z5
  replace fz6 := keepFrozen c3 z6 fz6
  replace z6 := keepCell c3 z6
  replace f0 := keepCell c3 f0
  replace qf0 := World.block_lt_of_cell? _ _ f0
  replace f1 := keepCell c3 f1
  replace f2 := keepCell c3 f2
  have t0 : w3.cell? ⟨w2.heap.size, 0, none⟩ = some (.int .i64 R) := keepCell d3 (by go_simp)
  have qt0 := World.block_lt_of_cell? _ _ t0
  have t1 : w3.cell? ⟨w2.heap.size, 1, none⟩ = some (.int .i64 c) := keepCell d3 (by go_simp)
  have t2 : w3.cell? ⟨w2.heap.size, 2, none⟩ = some (.int .i64 d) := keepCell d3 (by go_simp)
  replace hB := belowT hB c3
  clear c3 d3
  go_wp2_with fail
  refine (ST.out _).mono ?_
  rintro e w4 ⟨rfl, d4⟩
  have c4 : Below w3.heap.size w3 w4 := Below.trans (by go_grown) (d4.mono (by simp; try omega))
  replace fz0 := keepFrozen c4 z0 fz0
  replace z0 := keepCell c4 z0
  replace qz0 := World.block_lt_of_cell? _ _ z0
  replace fz1 := keepFrozen c4 z1 fz1
  replace z1 := keepCell c4 z1
  replace fz2 := keepFrozen c4 z2 fz2
  replace z2 := keepCell c4 z2
  replace fz3 := keepFrozen c4 z3 fz3
  replace z3 := keepCell c4 z3
  replace fz4 := keepFrozen c4 z4 fz4
  replace z4 := keepCell c4 z4
  replace fz5 := keepFrozen c4 z5 fz5
  replace z5 := keepCell c4 z5
  replace fz6 := keepFrozen c4 z6 fz6
  replace z6 := keepCell c4 z6
  replace f0 := keepCell c4 f0
  replace qf0 := World.block_lt_of_cell? _ _ f0
  replace f1 := keepCell c4 f1
  replace f2 := keepCell c4 f2
  replace t0 := keepCell c4 t0
  replace qt0 := World.block_lt_of_cell? _ _ t0
  replace t1 := keepCell c4 t1
  replace t2 := keepCell c4 t2
  have d0 : w4.cell? ⟨w3.heap.size, 0, none⟩ = some (.int .i64 X) := keepCell d4 (by go_simp)
  have qd0 := World.block_lt_of_cell? _ _ d0
  have d1 : w4.cell? ⟨w3.heap.size, 1, none⟩ = some (.int .i64 Y) := keepCell d4 (by go_simp)
  replace hB := belowT hB c4
  clear c4 d4
  obtain ⟨z, ez, g0, g1, g2, g3, g4, g5, g6⟩ := seven_stores (u0 := .int .i64 R) (u1 := .int .i64 a) (u2 := .int .i64 b) (u3 := .int .i64 R) (u4 := .int .i64 c) (u5 := .int .i64 d) (u6 := .int .i64 n) z0 z1 z2 z3 z4 z5 z6
  have ez := hidd ez
  have hz : Below w.heap.size w z := by rw [ez.out]; exact ((((((hB.setCell (by simp) _).setCell (by simp) _).setCell (by simp) _).setCell (by simp) _).setCell (by simp) _).setCell (by simp) _).setCell (by simp) _
  go_wp2
  rw [← ez.out]
  exact bodyPost_ret (v := .tuple #[.agg #[.int .i64 R, .int .i64 a, .int .i64 b, .int .i64 R, .int .i64 c, .int .i64 d, .int .i64 n], .int .i64 0]) (by simp [results, Tryz.results16, go_sem, g0, g1, g2, g3, g4, g5, g6]) rfl ⟨rfl, hz⟩

set_option maxHeartbeats 8000000 in
set_option maxRecDepth 20000 in
theorem npair_no (v u t : Int) (hv : U64 v) (hu : U64 u) (ht : PairNo v u t) (w : World) (hT : Tabs w) :
    Calls Tryz.prog 16 #[.int .u64 v, .int .u64 u] w fun e w' => e = .returned (.tuple #[.agg #[.int .i64 0, .int .i64 0, .int .i64 0, .int .i64 0, .int .i64 0, .int .i64 0, .int .i64 0], .int .i64 t]) ∧ Below w.heap.size w w' := by
  have hT0 : Hid (Tabs w) := hT
  clear hT
  rcases ht with ⟨h1, rfl⟩ | ⟨h1, h2, rfl⟩ | ⟨h1, h2, h3, rfl⟩
  · have I1 := hidd (icell_no v hv h1)
    clear h1 hu
    go_enter Tryz.func16, Tryz.ntmps16
    go_wp2_with fail
    refine (I1.out _).mono ?_
    rintro e w1 ⟨rfl, d1⟩
    have c1 : Below w.heap.size w w1 := Below.trans (by go_grown) (d1.mono (by simp; try omega))
    have z0 : w1.cell? ⟨w.heap.size, 0, none⟩ = some (.int .i64 0) := keepCell d1 (by go_simp)
    have fz0 : w1.frozen? ⟨w.heap.size, 0, none⟩ = false := keepFrozen (v := .int .i64 0) d1 (by go_simp) (by go_simp)
    have qz0 := World.block_lt_of_cell? _ _ z0
    have z1 : w1.cell? ⟨w.heap.size, 1, none⟩ = some (.int .i64 0) := keepCell d1 (by go_simp)
    have fz1 : w1.frozen? ⟨w.heap.size, 1, none⟩ = false := keepFrozen (v := .int .i64 0) d1 (by go_simp) (by go_simp)
    have z2 : w1.cell? ⟨w.heap.size, 2, none⟩ = some (.int .i64 0) := keepCell d1 (by go_simp)
    have fz2 : w1.frozen? ⟨w.heap.size, 2, none⟩ = false := keepFrozen (v := .int .i64 0) d1 (by go_simp) (by go_simp)
    have z3 : w1.cell? ⟨w.heap.size, 3, none⟩ = some (.int .i64 0) := keepCell d1 (by go_simp)
    have fz3 : w1.frozen? ⟨w.heap.size, 3, none⟩ = false := keepFrozen (v := .int .i64 0) d1 (by go_simp) (by go_simp)
    have z4 : w1.cell? ⟨w.heap.size, 4, none⟩ = some (.int .i64 0) := keepCell d1 (by go_simp)
    have fz4 : w1.frozen? ⟨w.heap.size, 4, none⟩ = false := keepFrozen (v := .int .i64 0) d1 (by go_simp) (by go_simp)
    have z5 : w1.cell? ⟨w.heap.size, 5, none⟩ = some (.int .i64 0) := keepCell d1 (by go_simp)
    have fz5 : w1.frozen? ⟨w.heap.size, 5, none⟩ = false := keepFrozen (v := .int .i64 0) d1 (by go_simp) (by go_simp)
    have z6 : w1.cell? ⟨w.heap.size, 6, none⟩ = some (.int .i64 0) := keepCell d1 (by go_simp)
    have fz6 : w1.frozen? ⟨w.heap.size, 6, none⟩ = false := keepFrozen (v := .int .i64 0) d1 (by go_simp) (by go_simp)
    have hB := c1
    clear c1 d1
    have hal : Below w1.heap.size w1 (w1.alloc (.cells #[.int .i64 0, .int .i64 0, .int .i64 0] 37)) := allocB _ _
    replace fz0 := keepFrozen hal z0 fz0
    replace z0 := keepCell hal z0
    replace fz1 := keepFrozen hal z1 fz1
    replace z1 := keepCell hal z1
    replace fz2 := keepFrozen hal z2 fz2
    replace z2 := keepCell hal z2
    replace fz3 := keepFrozen hal z3 fz3
    replace z3 := keepCell hal z3
    replace fz4 := keepFrozen hal z4 fz4
    replace z4 := keepCell hal z4
    replace fz5 := keepFrozen hal z5 fz5
    replace z5 := keepCell hal z5
    replace fz6 := keepFrozen hal z6 fz6
    replace z6 := keepCell hal z6
    replace hB := belowT hB hal
    clear hal
    go_upto_if 19 with fail
    generalize w1.alloc (.cells #[.int .i64 0, .int .i64 0, .int .i64 0] 37) = wz at z0 fz0 z1 fz1 z2 fz2 z3 fz3 z4 fz4 z5 fz5 z6 fz6 hB ⊢
    obtain ⟨z, ez, g0, g1, g2, g3, g4, g5, g6⟩ := seven_stores (u0 := .int .i64 0) (u1 := .int .i64 0) (u2 := .int .i64 0) (u3 := .int .i64 0) (u4 := .int .i64 0) (u5 := .int .i64 0) (u6 := .int .i64 0) z0 z1 z2 z3 z4 z5 z6
    have ez := hidd ez
    have hz : Below w.heap.size w z := by rw [ez.out]; exact ((((((hB.setCell (by simp) _).setCell (by simp) _).setCell (by simp) _).setCell (by simp) _).setCell (by simp) _).setCell (by simp) _).setCell (by simp) _
    go_wp2
    rw [← ez.out]
    exact bodyPost_ret (v := .tuple #[.agg #[.int .i64 0, .int .i64 0, .int .i64 0, .int .i64 0, .int .i64 0, .int .i64 0, .int .i64 0], .int .i64 5]) (by simp [results, Tryz.results16, go_sem, g0, g1, g2, g3, g4, g5, g6]) rfl ⟨rfl, hz⟩
  · have I1 := hidd (icell_yes v h1)
    have I2 := hidd (icell_no u hu h2)
    clear h1 h2
    generalize cellA v = a at *
    generalize cellB v = b at *
    generalize wR v = R at *
    go_enter Tryz.func16, Tryz.ntmps16
    go_wp2_with fail
    refine (I1.out _ ?_).mono ?_
    · exact hT0.out.below (by go_grown)
    rintro e w1 ⟨rfl, d1⟩
    have c1 : Below w.heap.size w w1 := Below.trans (by go_grown) (d1.mono (by simp; try omega))
    have z0 : w1.cell? ⟨w.heap.size, 0, none⟩ = some (.int .i64 0) := keepCell d1 (by go_simp)
    have fz0 : w1.frozen? ⟨w.heap.size, 0, none⟩ = false := keepFrozen (v := .int .i64 0) d1 (by go_simp) (by go_simp)
    have qz0 := World.block_lt_of_cell? _ _ z0
    have z1 : w1.cell? ⟨w.heap.size, 1, none⟩ = some (.int .i64 0) := keepCell d1 (by go_simp)
    have fz1 : w1.frozen? ⟨w.heap.size, 1, none⟩ = false := keepFrozen (v := .int .i64 0) d1 (by go_simp) (by go_simp)
    have z2 : w1.cell? ⟨w.heap.size, 2, none⟩ = some (.int .i64 0) := keepCell d1 (by go_simp)
    have fz2 : w1.frozen? ⟨w.heap.size, 2, none⟩ = false := keepFrozen (v := .int .i64 0) d1 (by go_simp) (by go_simp)
    have z3 : w1.cell? ⟨w.heap.size, 3, none⟩ = some (.int .i64 0) := keepCell d1 (by go_simp)
    have fz3 : w1.frozen? ⟨w.heap.size, 3, none⟩ = false := keepFrozen (v := .int .i64 0) d1 (by go_simp) (by go_simp)
    have z4 : w1.cell? ⟨w.heap.size, 4, none⟩ = some (.int .i64 0) := keepCell d1 (by go_simp)
    have fz4 : w1.frozen? ⟨w.heap.size, 4, none⟩ = false := keepFrozen (v := .int .i64 0) d1 (by go_simp) (by go_simp)
    have z5 : w1.cell? ⟨w.heap.size, 5, none⟩ = some (.int .i64 0) := keepCell d1 (by go_simp)
    have fz5 : w1.frozen? ⟨w.heap.size, 5, none⟩ = false := keepFrozen (v := .int .i64 0) d1 (by go_simp) (by go_simp)
    have z6 : w1.cell? ⟨w.heap.size, 6, none⟩ = some (.int .i64 0) := keepCell d1 (by go_simp)
    have fz6 : w1.frozen? ⟨w.heap.size, 6, none⟩ = false := keepFrozen (v := .int .i64 0) d1 (by go_simp) (by go_simp)
    have hB := c1
    clear c1 d1
    go_wp2_with fail
    refine (I2.out _).mono ?_
    rintro e w2 ⟨rfl, d2⟩
    have c2 : Below w1.heap.size w1 w2 := Below.trans (by go_grown) (d2.mono (by simp; try omega))
    replace fz0 := keepFrozen c2 z0 fz0
    replace z0 := keepCell c2 z0
    replace qz0 := World.block_lt_of_cell? _ _ z0
    replace fz1 := keepFrozen c2 z1 fz1
    replace z1 := keepCell c2 z1
    replace fz2 := keepFrozen c2 z2 fz2
    replace z2 := keepCell c2 z2
    replace fz3 := keepFrozen c2 z3 fz3
    replace z3 := keepCell c2 z3
    replace fz4 := keepFrozen c2 z4 fz4
    replace z4 := keepCell c2 z4
    replace fz5 := keepFrozen c2 z5 fz5
    replace z5 := keepCell c2 z5
    replace fz6 := keepFrozen c2 z6 fz6
    replace z6 := keepCell c2 z6
    have f0 : w2.cell? ⟨w1.heap.size, 0, none⟩ = some (.int .i64 R) := keepCell d2 (by go_simp)
    have qf0 := World.block_lt_of_cell? _ _ f0
    have f1 : w2.cell? ⟨w1.heap.size, 1, none⟩ = some (.int .i64 a) := keepCell d2 (by go_simp)
    have f2 : w2.cell? ⟨w1.heap.size, 2, none⟩ = some (.int .i64 b) := keepCell d2 (by go_simp)
    replace hB := belowT hB c2
    clear c2 d2
    have hal : Below w2.heap.size w2 (w2.alloc (.cells #[.int .i64 0, .int .i64 0, .int .i64 0] 37)) := allocB _ _
    replace fz0 := keepFrozen hal z0 fz0
    replace z0 := keepCell hal z0
    replace fz1 := keepFrozen hal z1 fz1
    replace z1 := keepCell hal z1
    replace fz2 := keepFrozen hal z2 fz2
    replace z2 := keepCell hal z2
    replace fz3 := keepFrozen hal z3 fz3
    replace z3 := keepCell hal z3
    replace fz4 := keepFrozen hal z4 fz4
    replace z4 := keepCell hal z4
    replace fz5 := keepFrozen hal z5 fz5
    replace z5 := keepCell hal z5
    replace fz6 := keepFrozen hal z6 fz6
    replace z6 := keepCell hal z6
    replace hB := belowT hB hal
    clear hal
    go_upto_if 28 with fail
    generalize w2.alloc (.cells #[.int .i64 0, .int .i64 0, .int .i64 0] 37) = wz at z0 fz0 z1 fz1 z2 fz2 z3 fz3 z4 fz4 z5 fz5 z6 fz6 hB ⊢
    obtain ⟨z, ez, g0, g1, g2, g3, g4, g5, g6⟩ := seven_stores (u0 := .int .i64 0) (u1 := .int .i64 0) (u2 := .int .i64 0) (u3 := .int .i64 0) (u4 := .int .i64 0) (u5 := .int .i64 0) (u6 := .int .i64 0) z0 z1 z2 z3 z4 z5 z6
    have ez := hidd ez
    have hz : Below w.heap.size w z := by rw [ez.out]; exact ((((((hB.setCell (by simp) _).setCell (by simp) _).setCell (by simp) _).setCell (by simp) _).setCell (by simp) _).setCell (by simp) _).setCell (by simp) _
    go_wp2
    rw [← ez.out]
    exact bodyPost_ret (v := .tuple #[.agg #[.int .i64 0, .int .i64 0, .int .i64 0, .int .i64 0, .int .i64 0, .int .i64 0, .int .i64 0], .int .i64 5]) (by simp [results, Tryz.results16, go_sem, g0, g1, g2, g3, g4, g5, g6]) rfl ⟨rfl, hz⟩
  · have I1 := hidd (icell_yes v h1)
    have I2 := hidd (icell_yes u h2)
    clear h1 h2
    generalize cellA v = a at *
    generalize cellB v = b at *
    generalize cellA u = c at *
    generalize cellB u = d at *
    generalize wR v = R at *
    generalize wR u = S at *
    have hRS : (R == S) = false := by simpa using h3
    go_enter Tryz.func16, Tryz.ntmps16
    go_wp2_with fail
    refine (I1.out _ ?_).mono ?_
    · exact hT0.out.below (by go_grown)
    rintro e w1 ⟨rfl, d1⟩
    have c1 : Below w.heap.size w w1 := Below.trans (by go_grown) (d1.mono (by simp; try omega))
    have z0 : w1.cell? ⟨w.heap.size, 0, none⟩ = some (.int .i64 0) := keepCell d1 (by go_simp)
    have fz0 : w1.frozen? ⟨w.heap.size, 0, none⟩ = false := keepFrozen (v := .int .i64 0) d1 (by go_simp) (by go_simp)
    have qz0 := World.block_lt_of_cell? _ _ z0
    have z1 : w1.cell? ⟨w.heap.size, 1, none⟩ = some (.int .i64 0) := keepCell d1 (by go_simp)
    have fz1 : w1.frozen? ⟨w.heap.size, 1, none⟩ = false := keepFrozen (v := .int .i64 0) d1 (by go_simp) (by go_simp)
    have z2 : w1.cell? ⟨w.heap.size, 2, none⟩ = some (.int .i64 0) := keepCell d1 (by go_simp)
    have fz2 : w1.frozen? ⟨w.heap.size, 2, none⟩ = false := keepFrozen (v := .int .i64 0) d1 (by go_simp) (by go_simp)
    have z3 : w1.cell? ⟨w.heap.size, 3, none⟩ = some (.int .i64 0) := keepCell d1 (by go_simp)
    have fz3 : w1.frozen? ⟨w.heap.size, 3, none⟩ = false := keepFrozen (v := .int .i64 0) d1 (by go_simp) (by go_simp)
    have z4 : w1.cell? ⟨w.heap.size, 4, none⟩ = some (.int .i64 0) := keepCell d1 (by go_simp)
    have fz4 : w1.frozen? ⟨w.heap.size, 4, none⟩ = false := keepFrozen (v := .int .i64 0) d1 (by go_simp) (by go_simp)
    have z5 : w1.cell? ⟨w.heap.size, 5, none⟩ = some (.int .i64 0) := keepCell d1 (by go_simp)
    have fz5 : w1.frozen? ⟨w.heap.size, 5, none⟩ = false := keepFrozen (v := .int .i64 0) d1 (by go_simp) (by go_simp)
    have z6 : w1.cell? ⟨w.heap.size, 6, none⟩ = some (.int .i64 0) := keepCell d1 (by go_simp)
    have fz6 : w1.frozen? ⟨w.heap.size, 6, none⟩ = false := keepFrozen (v := .int .i64 0) d1 (by go_simp) (by go_simp)
    have hB := c1
    clear c1 d1
    have hT1 := hidd (hT0.out.below hB)
    go_wp2_with fail
    refine (I2.out _ ?_).mono ?_
    · exact hT1.out.below (by go_grown)
    rintro e w2 ⟨rfl, d2⟩
    have c2 : Below w1.heap.size w1 w2 := Below.trans (by go_grown) (d2.mono (by simp; try omega))
    replace fz0 := keepFrozen c2 z0 fz0
    replace z0 := keepCell c2 z0
    replace qz0 := World.block_lt_of_cell? _ _ z0
    replace fz1 := keepFrozen c2 z1 fz1
    replace z1 := keepCell c2 z1
    replace fz2 := keepFrozen c2 z2 fz2
    replace z2 := keepCell c2 z2
    replace fz3 := keepFrozen c2 z3 fz3
    replace z3 := keepCell c2 z3
    replace fz4 := keepFrozen c2 z4 fz4
    replace z4 := keepCell c2 z4
    replace fz5 := keepFrozen c2 z5 fz5
    replace z5 := keepCell c2 z5
    replace fz6 := keepFrozen c2 z6 fz6
    replace z6 := keepCell c2 z6
    have f0 : w2.cell? ⟨w1.heap.size, 0, none⟩ = some (.int .i64 R) := keepCell d2 (by go_simp)
    have qf0 := World.block_lt_of_cell? _ _ f0
    have f1 : w2.cell? ⟨w1.heap.size, 1, none⟩ = some (.int .i64 a) := keepCell d2 (by go_simp)
    have f2 : w2.cell? ⟨w1.heap.size, 2, none⟩ = some (.int .i64 b) := keepCell d2 (by go_simp)
    replace hB := belowT hB c2
    clear c2 d2
    have hal : Below w2.heap.size w2 (w2.alloc (.cells #[.int .i64 S, .int .i64 c, .int .i64 d] 37)) := allocB _ _
    replace fz0 := keepFrozen hal z0 fz0
    replace z0 := keepCell hal z0
    replace fz1 := keepFrozen hal z1 fz1
    replace z1 := keepCell hal z1
    replace fz2 := keepFrozen hal z2 fz2
    replace z2 := keepCell hal z2
    replace fz3 := keepFrozen hal z3 fz3
    replace z3 := keepCell hal z3
    replace fz4 := keepFrozen hal z4 fz4
    replace z4 := keepCell hal z4
    replace fz5 := keepFrozen hal z5 fz5
    replace z5 := keepCell hal z5
    replace fz6 := keepFrozen hal z6 fz6
    replace z6 := keepCell hal z6
    have f0 := keepCell hal f0
    have t0 : (w2.alloc (.cells #[.int .i64 S, .int .i64 c, .int .i64 d] 37)).cell? ⟨w2.heap.size, 0, none⟩ = some (.int .i64 S) := by go_simp
    replace hB := belowT hB hal
    clear hal
    go_upto_if 35 with fail
    generalize w2.alloc (.cells #[.int .i64 S, .int .i64 c, .int .i64 d] 37) = wz at z0 fz0 z1 fz1 z2 fz2 z3 fz3 z4 fz4 z5 fz5 z6 fz6 f0 t0 hB ⊢
    obtain ⟨z, ez, g0, g1, g2, g3, g4, g5, g6⟩ := seven_stores (u0 := .int .i64 0) (u1 := .int .i64 0) (u2 := .int .i64 0) (u3 := .int .i64 0) (u4 := .int .i64 0) (u5 := .int .i64 0) (u6 := .int .i64 0) z0 z1 z2 z3 z4 z5 z6
    have ez := hidd ez
    have hz : Below w.heap.size w z := by rw [ez.out]; exact ((((((hB.setCell (by simp) _).setCell (by simp) _).setCell (by simp) _).setCell (by simp) _).setCell (by simp) _).setCell (by simp) _).setCell (by simp) _
    go_wp2
    rw [← ez.out]
    exact bodyPost_ret (v := .tuple #[.agg #[.int .i64 0, .int .i64 0, .int .i64 0, .int .i64 0, .int .i64 0, .int .i64 0, .int .i64 0], .int .i64 8]) (by simp [results, Tryz.results16, go_sem, g0, g1, g2, g3, g4, g5, g6]) rfl ⟨rfl, hz⟩

set_option maxHeartbeats 2000000 in
/-- DISTANCE: the steps from cell to cell. -/
theorem ndist_yes (v u : Int) (hv : Whole v) (hu : Whole u) (hr : wR u = wR v) (w : World) (hT : Tabs w) :
    Calls Tryz.prog 7 #[.int .u64 v, .int .u64 u] w fun e w' => e = .returned (.tuple #[.int .i64 (stp (cellA u - cellA v) (cellB u - cellB v)), .int .i64 0]) ∧ Below w.heap.size w w' := by
  have PA := hidd (npair_yes v u hv hu hr w hT)
  clear hv hu hr hT
  generalize stp (cellA u - cellA v) (cellB u - cellB v) = n at *
  go_enter Tryz.func7, Tryz.ntmps7
  go_wp2_with fail
  refine (PA.out).mono ?_
  rintro e w1 ⟨rfl, d1⟩
  have c1 : Below w.heap.size w w1 := Below.trans (by go_grown) (d1.mono (by simp; try omega))
  have hB := c1
  clear c1 d1
  go_wp2
  go_ret2
  exact ⟨rfl, belowT hB (by go_grown)⟩
set_option maxHeartbeats 2000000 in
theorem ndist_no (v u t : Int) (hv : U64 v) (hu : U64 u) (ht : PairNo v u t) (w : World) (hT : Tabs w) :
    Calls Tryz.prog 7 #[.int .u64 v, .int .u64 u] w fun e w' => e = .returned (.tuple #[.int .i64 0, .int .i64 t]) ∧ Below w.heap.size w w' := by
  have PA := hidd (npair_no v u t hv hu ht w hT)
  clear hv hu ht hT
  go_enter Tryz.func7, Tryz.ntmps7
  go_wp2_with fail
  refine (PA.out).mono ?_
  rintro e w1 ⟨rfl, d1⟩
  have c1 : Below w.heap.size w w1 := Below.trans (by go_grown) (d1.mono (by simp; try omega))
  have hB := c1
  clear c1 d1
  go_wp2
  go_ret2
  exact ⟨rfl, belowT hB (by go_grown)⟩
end Go.Proofs.YteipijgkiobmaabGreatDoor
