/-
  The law PlaneStraight answers true for every point, every direction, in whatever memory: centres along a row of the finest lattice are each nearest to itself.
-/
import Derived.Test.YtchcidhcefblpaaPWidth
import Derived.Test.YtchcidhcefblpaaPCentre
import Derived.Test.YtchcidhcefblpaaPPoint
import Derived.Test.YtchcidhcefblpaaRefMul
namespace Go.Proofs.Ytchcidhcefblpaa
open Go.RowKit

theorem unit_box (j : Int) : -1 ≤ unitA (j % 6) ∧ unitA (j % 6) ≤ 1 ∧ -1 ≤ unitB (j % 6) ∧ unitB (j % 6) ≤ 1 := by
  have hc : j % 6 = 0 ∨ j % 6 = 1 ∨ j % 6 = 2 ∨ j % 6 = 3 ∨ j % 6 = 4 ∨ j % 6 = 5 := by omega
  rcases hc with h | h | h | h | h | h <;> rw [h] <;> decide
/-- A step of a row. -/
theorem step_box {i d : Int} (i0 : 0 ≤ i) (i1 : i ≤ 20) (d1 : -1 ≤ d) (d2 : d ≤ 1) : -20 ≤ i * d ∧ i * d ≤ 20 := by
  have hc : d = -1 ∨ d = 0 ∨ d = 1 := by omega
  rcases hc with rfl | rfl | rfl <;> omega

set_option maxHeartbeats 4000000 in
set_option maxRecDepth 20000 in
theorem straight_core (x0 y0 k0 x y a b c d : Int) (a1 : -67108864 ≤ a) (a2 : a ≤ 67108864) (b1 : -67108864 ≤ b) (b2 : b ≤ 67108864) (c1 : -1 ≤ c) (c2 : c ≤ 1) (d1 : -1 ≤ d) (d2 : d ≤ 1)
    (PT : ∀ w, Calls Try.prog 11 #[.int .i64 x0, .int .i64 y0] w fun e w' => e = .returned (.tuple #[.int .i64 x, .int .i64 y]) ∧ Below w.heap.size w w')
    (N1 : ∀ w, Calls Try.prog 12 #[.int .i64 x, .int .i64 y, .int .i64 12] w fun e w' => e = .returned (.tuple #[.agg #[.int .i64 a, .int .i64 b], .bool true]) ∧ Below w.heap.size w w')
    (UN : ∀ w, Calls Try.prog 13 #[.int .i64 k0] w fun e w' => e = .returned (.agg #[.int .i64 c, .int .i64 d]) ∧ Below w.heap.size w w') (w : World) :
    Calls Try.prog 4 #[.int .i64 x0, .int .i64 y0, .int .i64 k0] w fun e w' => e = .returned (.bool true) ∧ Below w.heap.size w w' := by
  replace PT : Hid _ := PT
  replace N1 : Hid _ := N1
  replace UN : Hid _ := UN
  go_enter Try.func4, Try.ntmps4
  go_wp2_with fail
  refine (PT.out _).mono ?_
  rintro e w1 ⟨rfl, d1⟩
  have c1 : Below w.heap.size w w1 := Below.trans (by go_grown) (d1.mono (by simp; try omega))
  have hB := c1
  clear c1 d1
  go_wp2_with fail
  refine (N1.out _).mono ?_
  rintro e w2 ⟨rfl, d2⟩
  have c2 : Below w1.heap.size w1 w2 := Below.trans (by go_grown) (d2.mono (by simp; try omega))
  replace hB := belowT hB c2
  clear c2 d2
  go_wp2_with fail
  refine (UN.out _).mono ?_
  rintro e w3 ⟨rfl, d3⟩
  have c3 : Below w2.heap.size w2 w3 := Below.trans (by go_grown) (d3.mono (by simp; try omega))
  have z0 : w3.cell? ⟨w2.heap.size, 0, none⟩ = some (.int .i64 a) := keepCell d3 (by go_simp)
  have qz0 := World.block_lt_of_cell? _ _ z0
  have z1 : w3.cell? ⟨w2.heap.size, 1, none⟩ = some (.int .i64 b) := keepCell d3 (by go_simp)
  replace hB := belowT hB c3
  clear c3 d3
  go_wp2_with fail
  have hk := allocB w3 (.cells #[.int .i64 c, .int .i64 d] 23)
  have u0 : (w3.alloc (.cells #[.int .i64 c, .int .i64 d] 23)).cell? ⟨w3.heap.size, 0, none⟩ = some (.int .i64 c) := by go_simp
  have u1 : (w3.alloc (.cells #[.int .i64 c, .int .i64 d] 23)).cell? ⟨w3.heap.size, 1, none⟩ = some (.int .i64 d) := by go_simp
  replace z0 := keepCell hk z0
  replace z1 := keepCell hk z1
  replace hB := belowT hB hk
  clear hk qz0
  generalize hwc : w3.alloc (.cells #[.int .i64 c, .int .i64 d] 23) = wc at *
  clear hwc
  go_loopw [10] (fun v10 wr => ∃ k : Nat, k ≤ 20 ∧ v10 = .int .i64 (k : Int) ∧ wr.cell? ⟨w2.heap.size, 0, none⟩ = some (.int .i64 a) ∧ wr.cell? ⟨w2.heap.size, 1, none⟩ = some (.int .i64 b) ∧ wr.cell? ⟨w3.heap.size, 0, none⟩ = some (.int .i64 c) ∧ wr.cell? ⟨w3.heap.size, 1, none⟩ = some (.int .i64 d) ∧ Below w.heap.size w wr) (fun v10 _ => 20 - (intOf v10).toNat)
  case atStart => exact ⟨0, by omega, rfl, z0, z1, u0, u1, hB⟩
  case round =>
    clear hB z0 z1 u0 u1
    obtain ⟨k, hk, rfl, z0, z1, u0, u1, hB⟩ := hrel
    by_cases hlt : k < 20
    · have s1 := step_box (i := (k : Int)) (d := c) (by omega) (by omega) c1 c2
      have s2 := step_box (i := (k : Int)) (d := d) (by omega) (by omega) d1 d2
      obtain ⟨m, hm⟩ : ∃ m, (k : Int) * c = m := ⟨_, rfl⟩
      obtain ⟨n, hn⟩ : ∃ n, (k : Int) * d = n := ⟨_, rfl⟩
      rw [hm] at s1
      rw [hn] at s2
      obtain ⟨m1, m2⟩ := s1
      obtain ⟨n1, n2⟩ := s2
      have CE := pcentre_yes (a + m) (b + n) 12 0 (by omega) (by omega) ⟨by omega, by omega⟩ ⟨by omega, by omega⟩
      have NE := fun h => pnear_at (poX 0 (a + m) (b + n)) (poY 0 (a + m) (b + n)) 12 0 (by omega) (by omega) h (a + m) (b + n) (near_self (by omega) _ _)
      obtain ⟨p, hp⟩ : ∃ p, poX 0 (a + m) (b + n) = p := ⟨_, rfl⟩
      obtain ⟨q, hq⟩ : ∃ q, poY 0 (a + m) (b + n) = q := ⟨_, rfl⟩
      rw [hp, hq] at CE NE
      clear hp hq
      replace CE : Hid _ := CE
      cases hi : inWB p q with
      | true =>
        have OK : Hid _ := pok_at p q true hi
        have NE' := NE (inWB_yes hi)
        replace NE' : Hid _ := NE'
        clear NE hi
        go_wp2_with fail
        refine (CE.out _).mono ?_
        rintro e v1 ⟨rfl, d1⟩
        have c1 : Below wr.heap.size wr v1 := Below.trans (by go_grown) (d1.mono (by simp; try omega))
        replace z0 := keepCell c1 z0
        replace z1 := keepCell c1 z1
        replace u0 := keepCell c1 u0
        replace u1 := keepCell c1 u1
        have o0 : v1.cell? ⟨wr.heap.size, 0, none⟩ = some (.int .i64 (a + m)) := keepCell d1 (by go_simp)
        have qo0 := World.block_lt_of_cell? _ _ o0
        have o1 : v1.cell? ⟨wr.heap.size, 1, none⟩ = some (.int .i64 (b + n)) := keepCell d1 (by go_simp)
        replace hB := belowT hB c1
        clear c1 d1
        go_wp2_with fail
        refine (OK.out _).mono ?_
        rintro e v2 ⟨rfl, d2⟩
        have c2 : Below v1.heap.size v1 v2 := Below.trans (by go_grown) (d2.mono (by simp; try omega))
        replace z0 := keepCell c2 z0
        replace z1 := keepCell c2 z1
        replace u0 := keepCell c2 u0
        replace u1 := keepCell c2 u1
        replace o0 := keepCell c2 o0
        replace qo0 := World.block_lt_of_cell? _ _ o0
        replace o1 := keepCell c2 o1
        replace hB := belowT hB c2
        clear c2 d2
        go_wp2_with fail
        refine (NE'.out _).mono ?_
        rintro e v3 ⟨rfl, d3⟩
        have c3 : Below v2.heap.size v2 v3 := Below.trans (by go_grown) (d3.mono (by simp; try omega))
        replace z0 := keepCell c3 z0
        replace z1 := keepCell c3 z1
        replace u0 := keepCell c3 u0
        replace u1 := keepCell c3 u1
        replace o0 := keepCell c3 o0
        replace qo0 := World.block_lt_of_cell? _ _ o0
        replace o1 := keepCell c3 o1
        replace hB := belowT hB c3
        clear c3 d3
        go_wp2
        go_roundw
        case rel => exact ⟨k + 1, by omega, by go_num, keepCell (allocB _ _) z0, keepCell (allocB _ _) z1, keepCell (allocB _ _) u0, keepCell (allocB _ _) u1, belowT hB (allocB _ _)⟩
        case measure => simp [intOf]; omega
      | false =>
        have OK : Hid _ := pok_at p q false hi
        clear NE hi
        go_wp2_with fail
        refine (CE.out _).mono ?_
        rintro e v1 ⟨rfl, d1⟩
        have c1 : Below wr.heap.size wr v1 := Below.trans (by go_grown) (d1.mono (by simp; try omega))
        replace hB := belowT hB c1
        clear c1 d1
        go_wp2_with fail
        refine (OK.out _).mono ?_
        rintro e v2 ⟨rfl, d2⟩
        have c2 : Below v1.heap.size v1 v2 := Below.trans (by go_grown) (d2.mono (by simp; try omega))
        replace hB := belowT hB c2
        clear c2 d2
        go_wp2_with fail
        refine (awake3 _).mono ?_
        rintro e v3 ⟨rfl, d3⟩
        have c3 : Below v2.heap.size v2 v3 := Below.trans (by go_grown) (d3.mono (by simp; try omega))
        replace hB := belowT hB c3
        clear c3 d3
        go_wp2
        go_ret
        exact ⟨rfl, hB⟩
    · obtain rfl : k = 20 := by omega
      go_wp2_with fail
      refine (awake3 _).mono ?_
      rintro e v1 ⟨rfl, d1⟩
      have c1 : Below wr.heap.size wr v1 := Below.trans (by go_grown) (d1.mono (by simp; try omega))
      replace hB := belowT hB c1
      clear c1 d1
      go_wp2
      go_ret
      exact ⟨rfl, hB⟩

theorem planeStraight_walk (x0 y0 k0 : Int) (w : World) :
    Calls Try.prog 4 #[.int .i64 x0, .int .i64 y0, .int .i64 k0] w fun e w' => e = .returned (.bool true) ∧ Below w.heap.size w w' := by
  obtain ⟨x, y, hw, PT⟩ := point_any x0 y0
  obtain ⟨a, b, hn⟩ := nearest_some (dvK_box (K := 0) (by omega)).1 (nuA 0 x y) (nuB 0 x y)
  have hb := near_tame (K := 0) (by omega) hw hn
  have hu := unit_box k0
  exact straight_core x0 y0 k0 x y a b _ _ hb.1 hb.2.1 hb.2.2.1 hb.2.2.2 hu.1 hu.2.1 hu.2.2.1 hu.2.2.2 PT (pnear_at x y 12 0 (by omega) (by omega) hw a b hn) (refunit_any k0) w

end Go.Proofs.Ytchcidhcefblpaa
