/-
  On which side of a way a point lies, as the document's own text of layers 9 to 11 tells it, for any numbers within the bounds written, in whatever memory.
-/
import Derived.Test.YtdklpgphmoaniaaGreatDoorRefLessX
import Derived.Test.YtdklpgphmoaniaaGreatDoorProg
import Derived.Handy
import Derived.Deep.QuietTactic
import Derived.WalkSpells
import Derived.WalkLawsBesides
import Derived.BigQuiet
import Derived.PlainAid
import Derived.Deep.RegionWith
import Derived.Laws.BitsAllLaws
import Derived.Deep.RegionHeld3
import Derived.WalkSmall
import Derived.WalkKit
namespace Go.Proofs.YtdklpgphmoaniaaGreatDoor
open Go.RowKit

set_option maxHeartbeats 2000000 in
theorem cross_core (p0 p1 q0 q1 x y A B C D : Int) (n : Int) (u v : Bool) (hn : n = if u = true then -1 else if v = true then 1 else 0) (p01 : -1152921504606846976 ≤ p0) (p02 : p0 ≤ 1152921504606846976) (p11 : -1152921504606846976 ≤ p1) (p12 : p1 ≤ 1152921504606846976) (q01 : -1152921504606846976 ≤ q0) (q02 : q0 ≤ 1152921504606846976) (q11 : -1152921504606846976 ≤ q1) (q12 : q1 ≤ 1152921504606846976) (x1 : -1152921504606846976 ≤ x) (x2 : x ≤ 1152921504606846976) (y1 : -1152921504606846976 ≤ y) (y2 : y ≤ 1152921504606846976)
    (T1 : ∀ w, Calls Tryz.prog 62 #[.int .i64 (q0 - p0), .int .i64 (y - p1)] w fun e w' => e = .returned (.agg #[.int .u64 A, .int .u64 B]) ∧ Below w.heap.size w w')
    (T2 : ∀ w, Calls Tryz.prog 62 #[.int .i64 (q1 - p1), .int .i64 (x - p0)] w fun e w' => e = .returned (.agg #[.int .u64 C, .int .u64 D]) ∧ Below w.heap.size w w')
    (L1 : ∀ w, Calls Tryz.prog 87 #[.agg #[.int .u64 A, .int .u64 B], .agg #[.int .u64 C, .int .u64 D]] w fun e w' => e = .returned (.bool u) ∧ Below w.heap.size w w')
    (L2 : ∀ w, Calls Tryz.prog 87 #[.agg #[.int .u64 C, .int .u64 D], .agg #[.int .u64 A, .int .u64 B]] w fun e w' => e = .returned (.bool v) ∧ Below w.heap.size w w') (w : World) :
    Calls Tryz.prog 53 #[.agg #[.int .i64 p0, .int .i64 p1], .agg #[.int .i64 q0, .int .i64 q1], .int .i64 x, .int .i64 y] w fun e w' => e = .returned (.int .i64 n) ∧ Below w.heap.size w w' := by
  replace T1 : Hid _ := T1
  replace T2 : Hid _ := T2
  replace L1 : Hid _ := L1
  replace L2 : Hid _ := L2
  cases u with
  | true =>
    obtain rfl : n = -1 := hn
    go_enter Tryz.func53, Tryz.ntmps53
    go_wp2_with fail
    refine (T1.out _).mono ?_
    rintro e w1 ⟨rfl, d1⟩
    have c1 : Below w.heap.size w w1 := Below.trans (by go_grown) (d1.mono (by simp; try omega))
    have k0 : w1.cell? ⟨w.heap.size, 0, none⟩ = some (.int .i64 p0) := keepCell d1 (by go_simp)
    have qk0 := World.block_lt_of_cell? _ _ k0
    have k1 : w1.cell? ⟨w.heap.size, 1, none⟩ = some (.int .i64 p1) := keepCell d1 (by go_simp)
    have m0 : w1.cell? ⟨w.heap.size + 1, 0, none⟩ = some (.int .i64 q0) := keepCell d1 (by go_simp)
    have qm0 := World.block_lt_of_cell? _ _ m0
    have m1 : w1.cell? ⟨w.heap.size + 1, 1, none⟩ = some (.int .i64 q1) := keepCell d1 (by go_simp)
    have hB := c1
    clear c1 d1
    go_wp2_with fail
    refine (T2.out _).mono ?_
    rintro e w2 ⟨rfl, d2⟩
    have c2 : Below w1.heap.size w1 w2 := Below.trans (by go_grown) (d2.mono (by simp; try omega))
    replace k0 := keepCell c2 k0
    replace qk0 := World.block_lt_of_cell? _ _ k0
    replace k1 := keepCell c2 k1
    replace m0 := keepCell c2 m0
    replace qm0 := World.block_lt_of_cell? _ _ m0
    replace m1 := keepCell c2 m1
    have s0 : w2.cell? ⟨w1.heap.size, 0, none⟩ = some (.int .u64 A) := keepCell d2 (by go_simp)
    have qs0 := World.block_lt_of_cell? _ _ s0
    have s1 : w2.cell? ⟨w1.heap.size, 1, none⟩ = some (.int .u64 B) := keepCell d2 (by go_simp)
    replace hB := belowT hB c2
    clear c2 d2
    go_wp2_with fail
    refine (L1.out _).mono ?_
    rintro e w3 ⟨rfl, d3⟩
    have c3 : Below w2.heap.size w2 w3 := Below.trans (by go_grown) (d3.mono (by simp; try omega))
    replace k0 := keepCell c3 k0
    replace qk0 := World.block_lt_of_cell? _ _ k0
    replace k1 := keepCell c3 k1
    replace m0 := keepCell c3 m0
    replace qm0 := World.block_lt_of_cell? _ _ m0
    replace m1 := keepCell c3 m1
    replace s0 := keepCell c3 s0
    replace qs0 := World.block_lt_of_cell? _ _ s0
    replace s1 := keepCell c3 s1
    have t0 : w3.cell? ⟨w2.heap.size, 0, none⟩ = some (.int .u64 C) := keepCell d3 (by go_simp)
    have qt0 := World.block_lt_of_cell? _ _ t0
    have t1 : w3.cell? ⟨w2.heap.size, 1, none⟩ = some (.int .u64 D) := keepCell d3 (by go_simp)
    replace hB := belowT hB c3
    clear c3 d3
    go_wp2
    go_ret
    exact ⟨rfl, hB⟩
  | false =>
    cases v with
    | true =>
      obtain rfl : n = 1 := hn
      go_enter Tryz.func53, Tryz.ntmps53
      go_wp2_with fail
      refine (T1.out _).mono ?_
      rintro e w1 ⟨rfl, d1⟩
      have c1 : Below w.heap.size w w1 := Below.trans (by go_grown) (d1.mono (by simp; try omega))
      have k0 : w1.cell? ⟨w.heap.size, 0, none⟩ = some (.int .i64 p0) := keepCell d1 (by go_simp)
      have qk0 := World.block_lt_of_cell? _ _ k0
      have k1 : w1.cell? ⟨w.heap.size, 1, none⟩ = some (.int .i64 p1) := keepCell d1 (by go_simp)
      have m0 : w1.cell? ⟨w.heap.size + 1, 0, none⟩ = some (.int .i64 q0) := keepCell d1 (by go_simp)
      have qm0 := World.block_lt_of_cell? _ _ m0
      have m1 : w1.cell? ⟨w.heap.size + 1, 1, none⟩ = some (.int .i64 q1) := keepCell d1 (by go_simp)
      have hB := c1
      clear c1 d1
      go_wp2_with fail
      refine (T2.out _).mono ?_
      rintro e w2 ⟨rfl, d2⟩
      have c2 : Below w1.heap.size w1 w2 := Below.trans (by go_grown) (d2.mono (by simp; try omega))
      replace k0 := keepCell c2 k0
      replace qk0 := World.block_lt_of_cell? _ _ k0
      replace k1 := keepCell c2 k1
      replace m0 := keepCell c2 m0
      replace qm0 := World.block_lt_of_cell? _ _ m0
      replace m1 := keepCell c2 m1
      have s0 : w2.cell? ⟨w1.heap.size, 0, none⟩ = some (.int .u64 A) := keepCell d2 (by go_simp)
      have qs0 := World.block_lt_of_cell? _ _ s0
      have s1 : w2.cell? ⟨w1.heap.size, 1, none⟩ = some (.int .u64 B) := keepCell d2 (by go_simp)
      replace hB := belowT hB c2
      clear c2 d2
      go_wp2_with fail
      refine (L1.out _).mono ?_
      rintro e w3 ⟨rfl, d3⟩
      have c3 : Below w2.heap.size w2 w3 := Below.trans (by go_grown) (d3.mono (by simp; try omega))
      replace k0 := keepCell c3 k0
      replace qk0 := World.block_lt_of_cell? _ _ k0
      replace k1 := keepCell c3 k1
      replace m0 := keepCell c3 m0
      replace qm0 := World.block_lt_of_cell? _ _ m0
      replace m1 := keepCell c3 m1
      replace s0 := keepCell c3 s0
      replace qs0 := World.block_lt_of_cell? _ _ s0
      replace s1 := keepCell c3 s1
      have t0 : w3.cell? ⟨w2.heap.size, 0, none⟩ = some (.int .u64 C) := keepCell d3 (by go_simp)
      have qt0 := World.block_lt_of_cell? _ _ t0
      have t1 : w3.cell? ⟨w2.heap.size, 1, none⟩ = some (.int .u64 D) := keepCell d3 (by go_simp)
      replace hB := belowT hB c3
      clear c3 d3
      go_wp2_with fail
      refine (L2.out _).mono ?_
      rintro e w4 ⟨rfl, d4⟩
      have c4 : Below w3.heap.size w3 w4 := Below.trans (by go_grown) (d4.mono (by simp; try omega))
      replace k0 := keepCell c4 k0
      replace qk0 := World.block_lt_of_cell? _ _ k0
      replace k1 := keepCell c4 k1
      replace m0 := keepCell c4 m0
      replace qm0 := World.block_lt_of_cell? _ _ m0
      replace m1 := keepCell c4 m1
      replace s0 := keepCell c4 s0
      replace qs0 := World.block_lt_of_cell? _ _ s0
      replace s1 := keepCell c4 s1
      replace t0 := keepCell c4 t0
      replace qt0 := World.block_lt_of_cell? _ _ t0
      replace t1 := keepCell c4 t1
      replace hB := belowT hB c4
      clear c4 d4
      go_wp2
      go_ret
      exact ⟨rfl, hB⟩
    | false =>
      obtain rfl : n = 0 := hn
      go_enter Tryz.func53, Tryz.ntmps53
      go_wp2_with fail
      refine (T1.out _).mono ?_
      rintro e w1 ⟨rfl, d1⟩
      have c1 : Below w.heap.size w w1 := Below.trans (by go_grown) (d1.mono (by simp; try omega))
      have k0 : w1.cell? ⟨w.heap.size, 0, none⟩ = some (.int .i64 p0) := keepCell d1 (by go_simp)
      have qk0 := World.block_lt_of_cell? _ _ k0
      have k1 : w1.cell? ⟨w.heap.size, 1, none⟩ = some (.int .i64 p1) := keepCell d1 (by go_simp)
      have m0 : w1.cell? ⟨w.heap.size + 1, 0, none⟩ = some (.int .i64 q0) := keepCell d1 (by go_simp)
      have qm0 := World.block_lt_of_cell? _ _ m0
      have m1 : w1.cell? ⟨w.heap.size + 1, 1, none⟩ = some (.int .i64 q1) := keepCell d1 (by go_simp)
      have hB := c1
      clear c1 d1
      go_wp2_with fail
      refine (T2.out _).mono ?_
      rintro e w2 ⟨rfl, d2⟩
      have c2 : Below w1.heap.size w1 w2 := Below.trans (by go_grown) (d2.mono (by simp; try omega))
      replace k0 := keepCell c2 k0
      replace qk0 := World.block_lt_of_cell? _ _ k0
      replace k1 := keepCell c2 k1
      replace m0 := keepCell c2 m0
      replace qm0 := World.block_lt_of_cell? _ _ m0
      replace m1 := keepCell c2 m1
      have s0 : w2.cell? ⟨w1.heap.size, 0, none⟩ = some (.int .u64 A) := keepCell d2 (by go_simp)
      have qs0 := World.block_lt_of_cell? _ _ s0
      have s1 : w2.cell? ⟨w1.heap.size, 1, none⟩ = some (.int .u64 B) := keepCell d2 (by go_simp)
      replace hB := belowT hB c2
      clear c2 d2
      go_wp2_with fail
      refine (L1.out _).mono ?_
      rintro e w3 ⟨rfl, d3⟩
      have c3 : Below w2.heap.size w2 w3 := Below.trans (by go_grown) (d3.mono (by simp; try omega))
      replace k0 := keepCell c3 k0
      replace qk0 := World.block_lt_of_cell? _ _ k0
      replace k1 := keepCell c3 k1
      replace m0 := keepCell c3 m0
      replace qm0 := World.block_lt_of_cell? _ _ m0
      replace m1 := keepCell c3 m1
      replace s0 := keepCell c3 s0
      replace qs0 := World.block_lt_of_cell? _ _ s0
      replace s1 := keepCell c3 s1
      have t0 : w3.cell? ⟨w2.heap.size, 0, none⟩ = some (.int .u64 C) := keepCell d3 (by go_simp)
      have qt0 := World.block_lt_of_cell? _ _ t0
      have t1 : w3.cell? ⟨w2.heap.size, 1, none⟩ = some (.int .u64 D) := keepCell d3 (by go_simp)
      replace hB := belowT hB c3
      clear c3 d3
      go_wp2_with fail
      refine (L2.out _).mono ?_
      rintro e w4 ⟨rfl, d4⟩
      have c4 : Below w3.heap.size w3 w4 := Below.trans (by go_grown) (d4.mono (by simp; try omega))
      replace k0 := keepCell c4 k0
      replace qk0 := World.block_lt_of_cell? _ _ k0
      replace k1 := keepCell c4 k1
      replace m0 := keepCell c4 m0
      replace qm0 := World.block_lt_of_cell? _ _ m0
      replace m1 := keepCell c4 m1
      replace s0 := keepCell c4 s0
      replace qs0 := World.block_lt_of_cell? _ _ s0
      replace s1 := keepCell c4 s1
      replace t0 := keepCell c4 t0
      replace qt0 := World.block_lt_of_cell? _ _ t0
      replace t1 := keepCell c4 t1
      replace hB := belowT hB c4
      clear c4 d4
      go_wp2
      go_ret
      exact ⟨rfl, hB⟩

/-- CROSS: on which side of the way from p to q a point lies, by the sign of a product. -/
theorem cross_any (p0 p1 q0 q1 x y n : Int) (hn : n = if decide ((q0 - p0) * (y - p1) < (q1 - p1) * (x - p0)) = true then -1 else if decide ((q1 - p1) * (x - p0) < (q0 - p0) * (y - p1)) = true then 1 else 0) (p01 : -1152921504606846976 ≤ p0) (p02 : p0 ≤ 1152921504606846976) (p11 : -1152921504606846976 ≤ p1) (p12 : p1 ≤ 1152921504606846976) (q01 : -1152921504606846976 ≤ q0) (q02 : q0 ≤ 1152921504606846976) (q11 : -1152921504606846976 ≤ q1) (q12 : q1 ≤ 1152921504606846976) (x1 : -1152921504606846976 ≤ x) (x2 : x ≤ 1152921504606846976) (y1 : -1152921504606846976 ≤ y) (y2 : y ≤ 1152921504606846976) (w : World) :
    Calls Tryz.prog 53 #[.agg #[.int .i64 p0, .int .i64 p1], .agg #[.int .i64 q0, .int .i64 q1], .int .i64 x, .int .i64 y] w fun e w' => e = .returned (.int .i64 n) ∧ Below w.heap.size w w' := by
  have h1 := prod_side (a := q0 - p0) (b := y - p1) (by omega) (by omega) (by omega) (by omega)
  have h2 := prod_side (a := q1 - p1) (b := x - p0) (by omega) (by omega) (by omega) (by omega)
  exact cross_core p0 p1 q0 q1 x y _ _ _ _ n _ _ hn p01 p02 p11 p12 q01 q02 q11 q12 x1 x2 y1 y2 (times_any _ _ (by omega) (by omega) (by omega) (by omega)) (times_any _ _ (by omega) (by omega) (by omega) (by omega))
    (less_any _ _ _ rfl h1.1 h1.2 h2.1 h2.2) (less_any _ _ _ rfl h2.1 h2.2 h1.1 h1.2) w

end Go.Proofs.YtdklpgphmoaniaaGreatDoor
