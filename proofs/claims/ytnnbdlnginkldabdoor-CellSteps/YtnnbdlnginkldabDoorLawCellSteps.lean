/-
  The law CellSteps answers true for every three numbers, in whatever memory where the tables of Units and of digits hold what their texts lay: of the cells of one point, of two sizes one behind the other, the parent of the finer one is the coarser one, or one step away.
-/
import Derived.Test.YtnnbdlnginkldabDoorCSome
import Derived.Test.YtnnbdlnginkldabDoorCAwake
import Derived.Test.YtnnbdlnginkldabDoorRefSteps
namespace Go.Proofs.YtnnbdlnginkldabDoor
open Go.RowKit

set_option maxHeartbeats 8000000 in
set_option maxRecDepth 20000 in
theorem cellSteps_core (x0 y0 r0 t s q x y a b P Q p' q' n : Int) (ht : r0.tmod 12 = t) (hs : (t + 12).tmod 12 = s) (hq : s + 1 = q) (t1 : -12 < t) (t2 : t < 12) (s0 : 0 ≤ s) (s1 : s < 12)
    (P1 : -1073741824 ≤ P) (P2 : P ≤ 1073741824) (Q1 : -1073741824 ≤ Q) (Q2 : Q ≤ 1073741824) (p1 : -1073741824 ≤ p') (p2 : p' ≤ 1073741824) (q1 : -1073741824 ≤ q') (q2 : q' ≤ 1073741824) (hn : n ≤ 1)
    (PT : ∀ w, Calls Tryd.prog 14 #[.int .i64 x0, .int .i64 y0] w fun e w' => e = .returned (.tuple #[.int .i64 x, .int .i64 y]) ∧ Below w.heap.size w w')
    (O1 : ∀ w, Calls Tryd.prog 15 #[.int .i64 x, .int .i64 y, .int .i64 q] w fun e w' => e = .returned (.tuple #[.agg #[.int .i64 q, .int .i64 a, .int .i64 b], .int .i64 0]) ∧ Below w.heap.size w w')
    (O2 : ∀ w, Calls Tryd.prog 15 #[.int .i64 x, .int .i64 y, .int .i64 (q - 1)] w fun e w' => e = .returned (.tuple #[.agg #[.int .i64 (q - 1), .int .i64 p', .int .i64 q'], .int .i64 0]) ∧ Below w.heap.size w w')
    (PA : ∀ w, Tabs w → Calls Tryd.prog 16 #[.agg #[.int .i64 q, .int .i64 a, .int .i64 b]] w fun e w' => e = .returned (.tuple #[.agg #[.int .i64 (q - 1), .int .i64 P, .int .i64 Q], .int .i64 0]) ∧ Below w.heap.size w w')
    (ST : ∀ w, Calls Tryd.prog 17 #[.agg #[.int .i64 (P - p'), .int .i64 (Q - q')]] w fun e w' => e = .returned (.tuple #[.int .i64 n, .bool true]) ∧ Below w.heap.size w w')
    (w : World) (hT : Tabs w) :
    Calls Tryd.prog 5 #[.int .i64 x0, .int .i64 y0, .int .i64 r0] w fun e w' => e = .returned (.bool true) ∧ Below w.heap.size w w' := by
  replace PT : Hid _ := PT
  replace O1 : Hid _ := O1
  replace O2 : Hid _ := O2
  replace PA : Hid _ := PA
  replace ST : Hid _ := ST
  have hT0 : Hid (Tabs w) := hT
  have e1 : s + 1 - 1 = s := by omega
  clear hT e1
  go_enter Tryd.func5, Tryd.ntmps5
  go_wp2_with fail
  refine (PT.out _).mono ?_
  rintro e w1 ⟨rfl, d1⟩
  have c1 : Below w.heap.size w w1 := Below.trans (by go_grown) (d1.mono (by simp; try omega))
  have hB := c1
  clear c1 d1
  go_wp2_with fail
  refine (O1.out _).mono ?_
  rintro e w2 ⟨rfl, d2⟩
  have c2 : Below w1.heap.size w1 w2 := Below.trans (by go_grown) (d2.mono (by simp; try omega))
  replace hB := belowT hB c2
  clear c2 d2
  go_wp2_with fail
  refine (O2.out _).mono ?_
  rintro e w3 ⟨rfl, d3⟩
  have c3 : Below w2.heap.size w2 w3 := Below.trans (by go_grown) (d3.mono (by simp; try omega))
  have k0 : w3.cell? ⟨w2.heap.size, 0, none⟩ = some (.int .i64 q) := keepCell d3 (by go_simp)
  have qk0 := World.block_lt_of_cell? _ _ k0
  have k1 : w3.cell? ⟨w2.heap.size, 1, none⟩ = some (.int .i64 a) := keepCell d3 (by go_simp)
  have k2 : w3.cell? ⟨w2.heap.size, 2, none⟩ = some (.int .i64 b) := keepCell d3 (by go_simp)
  replace hB := belowT hB c3
  clear c3 d3
  go_wp2_with fail
  refine (PA.out _ ?_).mono ?_
  · exact hT0.out.below (belowT hB (by go_grown))
  rintro e w4 ⟨rfl, d4⟩
  have c4 : Below w3.heap.size w3 w4 := Below.trans (by go_grown) (d4.mono (by simp; try omega))
  replace k0 := keepCell c4 k0
  replace qk0 := World.block_lt_of_cell? _ _ k0
  replace k1 := keepCell c4 k1
  replace k2 := keepCell c4 k2
  have m0 : w4.cell? ⟨w3.heap.size, 0, none⟩ = some (.int .i64 (q - 1)) := keepCell d4 (by go_simp)
  have qm0 := World.block_lt_of_cell? _ _ m0
  have m1 : w4.cell? ⟨w3.heap.size, 1, none⟩ = some (.int .i64 p') := keepCell d4 (by go_simp)
  have m2 : w4.cell? ⟨w3.heap.size, 2, none⟩ = some (.int .i64 q') := keepCell d4 (by go_simp)
  replace hB := belowT hB c4
  clear c4 d4
  go_wp2_with fail
  refine (ST.out _).mono ?_
  rintro e w5 ⟨rfl, d5⟩
  have c5 : Below w4.heap.size w4 w5 := Below.trans (by go_grown) (d5.mono (by simp; try omega))
  replace k0 := keepCell c5 k0
  replace qk0 := World.block_lt_of_cell? _ _ k0
  replace k1 := keepCell c5 k1
  replace k2 := keepCell c5 k2
  replace m0 := keepCell c5 m0
  replace qm0 := World.block_lt_of_cell? _ _ m0
  replace m1 := keepCell c5 m1
  replace m2 := keepCell c5 m2
  replace hB := belowT hB c5
  clear c5 d5
  go_wp2_with fail
  refine (cawake _ ?_).mono ?_
  · exact hT0.out.below hB
  rintro e w6 ⟨rfl, d6⟩
  have c6 : Below w5.heap.size w5 w6 := Below.trans (by go_grown) (d6.mono (by simp; try omega))
  replace k0 := keepCell c6 k0
  replace qk0 := World.block_lt_of_cell? _ _ k0
  replace k1 := keepCell c6 k1
  replace k2 := keepCell c6 k2
  replace m0 := keepCell c6 m0
  replace qm0 := World.block_lt_of_cell? _ _ m0
  replace m1 := keepCell c6 m1
  replace m2 := keepCell c6 m2
  replace hB := belowT hB c6
  clear c6 d6
  go_wp2
  go_ret
  exact ⟨rfl, hB⟩

theorem cellSteps_walk (x0 y0 r0 : Int) (w : World) (hT : Tabs w) :
    Calls Tryd.prog 5 #[.int .i64 x0, .int .i64 y0, .int .i64 r0] w fun e w' => e = .returned (.bool true) ∧ Below w.heap.size w w' := by
  obtain ⟨x, y, hw, PT⟩ := point_any x0 y0
  have h := tmod_box r0 12 (by omega)
  obtain ⟨t, ht⟩ : ∃ t, r0.tmod 12 = t := ⟨_, rfl⟩
  rw [ht] at h
  obtain ⟨s, hs⟩ : ∃ s, (t + 12).tmod 12 = s := ⟨_, rfl⟩
  have hs2 : 0 ≤ s ∧ s < 12 := by rw [← hs, Int.tmod_eq_emod_of_nonneg (by omega)]; omega
  obtain ⟨a, b, hn⟩ := nearest_some (dvK_box (K := (11 - s).toNat) (by omega)).1 (nuA (11 - s).toNat x y) (nuB (11 - s).toNat x y)
  obtain ⟨p, q, hm⟩ := nearest_some (dvK_box (K := (11 - s).toNat + 1) (by omega)).1 (nuA ((11 - s).toNat + 1) x y) (nuB ((11 - s).toNat + 1) x y)
  have ho : Ok4 (s + 1) a b := near_ok (by omega) (by omega) hw hn
  have ho2 : Ok4 s p q := near_ok (by omega) (by omega) hw hm
  have hx := ok4_part (ok4_parent ho (by omega))
  have hy := ok4_part ho2
  have hst := near_steps (by omega) hn hm
  have PA := cparent_yes (s + 1) a b ho (by omega)
  have O2 : ∀ w, Calls Tryd.prog 15 #[.int .i64 x, .int .i64 y, .int .i64 (s + 1 - 1)] w fun e w' => e = .returned (.tuple #[.agg #[.int .i64 (s + 1 - 1), .int .i64 p, .int .i64 q], .int .i64 0]) ∧ Below w.heap.size w w' := by
    rw [show s + 1 - 1 = s by omega]
    exact cof_yes x y s _ (by omega) (by omega) hw p q hm
  exact cellSteps_core x0 y0 r0 t s (s + 1) x y a b _ _ p q _ ht hs rfl h.1 h.2 hs2.1 hs2.2 (by omega) (by omega) (by omega) (by omega) (by omega) (by omega) (by omega) (by omega) (by omega) PT
    (cof_yes x y (s + 1) _ (by omega) (by omega) hw a b hn) O2 PA (refsteps_yes _ _ (by omega) (by omega) (by omega) (by omega) (by omega) (by omega)) w hT
end Go.Proofs.YtnnbdlnginkldabDoor
