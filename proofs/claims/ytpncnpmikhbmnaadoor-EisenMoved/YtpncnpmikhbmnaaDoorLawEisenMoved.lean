/-
  The law EisenMoved answers true for every numerator, step and divisor, in whatever memory where the package's table of Units holds what its text lays: what is nearest moves by whole steps, and a whole number of the lattice is nearest to itself.
-/
import Derived.Test.YtpncnpmikhbmnaaDoorAwakeE
import Derived.Test.YtpncnpmikhbmnaaDoorENear
import Derived.Test.YtpncnpmikhbmnaaDoorESmall
import Derived.Deep.RegionWith
import Derived.Deep.Cut
namespace Go.Proofs.YtpncnpmikhbmnaaDoor
open Go.RowKit

theorem nearest_moved {d u v a b i k : Int} (h : Nearest d u v a b) : Nearest d (u + d * i) (v + d * k) (a + i) (b + k) := by
  have key : ∀ x y, HexAt d (u + d * i) (v + d * k) x y ↔ HexAt d u v (x - i) (y - k) := fun x y => by
    unfold HexAt
    have e1 : u + d * i - x * d = u - (x - i) * d := by rw [Int.sub_mul, Int.mul_comm d i]; omega
    have e2 : v + d * k - y * d = v - (y - k) * d := by rw [Int.sub_mul, Int.mul_comm d k]; omega
    rw [e1, e2]
  constructor
  · rw [key, show a + i - i = a by omega, show b + k - k = b by omega]; exact h.1
  · intro x y hxy
    rw [key] at hxy
    have := h.2 _ _ hxy
    omega
theorem near_hex_zero {d x y : Int} (hd : 0 < d) (h : Hex d (-(x * d)) (-(y * d))) : x = 0 ∧ y = 0 := by
  unfold Hex at h
  have bd : ∀ j : Int, -d ≤ j * d → j * d ≤ d → -1 ≤ j ∧ j ≤ 1 := by
    intro j h1 h2
    constructor
    · by_cases hj : -1 ≤ j
      · exact hj
      · exfalso
        have := Int.mul_le_mul_of_nonneg_right (show j ≤ -2 by omega) (show 0 ≤ d by omega)
        omega
    · by_cases hj : j ≤ 1
      · exact hj
      · exfalso
        have := Int.mul_le_mul_of_nonneg_right (show 2 ≤ j by omega) (show 0 ≤ d by omega)
        omega
  have bx := bd x (by omega) (by omega)
  have by' := bd y (by omega) (by omega)
  have ci : x = -1 ∨ x = 0 ∨ x = 1 := by omega
  have ck : y = -1 ∨ y = 0 ∨ y = 1 := by omega
  rcases ci with rfl | rfl | rfl <;> rcases ck with rfl | rfl | rfl <;> omega
theorem step_le {d i : Int} (d1 : 1 ≤ d) (d2 : d ≤ 1024) (i1 : -16384 < i) (i2 : i < 16384) : -16777216 ≤ d * i ∧ d * i ≤ 16777216 := by
  have h : (d * i).natAbs ≤ 1024 * 16384 := by rw [Int.natAbs_mul]; exact Nat.mul_le_mul (by omega) (by omega)
  omega
theorem near_part {d u v a b : Int} (h : Nearest d u v a b) (u1 : -16384 < u) (u2 : u < 16384) (v1 : -16384 < v) (v2 : v < 16384) (d1 : 1 ≤ d) (d2 : d ≤ 1024) : -20000 ≤ a ∧ a ≤ 20000 ∧ -20000 ≤ b ∧ b ≤ 20000 := by
  have h1 := h.1
  unfold HexAt Hex at h1
  have big : ∀ j : Int, -18000 ≤ j * d → j * d ≤ 18000 → -20000 ≤ j ∧ j ≤ 20000 := by
    intro j h1 h2
    constructor
    · by_cases hj : -20000 ≤ j
      · exact hj
      · exfalso
        have := Int.mul_le_mul_of_nonneg_left d1 (show 0 ≤ -j by omega)
        simp only [Int.neg_mul, Int.mul_one] at this
        omega
    · by_cases hj : j ≤ 20000
      · exact hj
      · exfalso
        have := Int.mul_le_mul_of_nonneg_left d1 (show 0 ≤ j by omega)
        rw [Int.mul_one] at this
        omega
  have ba := big a (by omega) (by omega)
  have bb := big b (by omega) (by omega)
  omega
theorem nearest_whole {d i k : Int} (hd : 0 < d) : Nearest d (d * i) (d * k) i k := by
  have h0 : Nearest d 0 0 0 0 := by
    constructor
    · unfold HexAt Hex; simp; omega
    · intro x y h
      unfold HexAt at h
      rw [Int.zero_sub, Int.zero_sub] at h
      have hh := near_hex_zero hd h
      omega
  have := nearest_moved (i := i) (k := k) h0
  rwa [Int.zero_add, Int.zero_add, Int.zero_add, Int.zero_add] at this

set_option maxHeartbeats 20000000 in
set_option maxRecDepth 20000 in
theorem moved_core (u0 v0 i0 k0 d0 u v i k m d : Int) (hm : bits .and .i64 d0 1023 = m) (hd : m + 1 = d) (u1 : -16384 < u) (u2 : u < 16384) (v1 : -16384 < v) (v2 : v < 16384) (i1 : -16384 < i) (i2 : i < 16384) (k1 : -16384 < k) (k2 : k < 16384) (m1 : 0 ≤ m) (m2 : m < 1024)
    (T1 : ∀ w, Calls Tryd.prog 9 #[.agg #[.int .i64 u0, .int .i64 v0]] w fun e w' => e = .returned (.agg #[.int .i64 u, .int .i64 v]) ∧ Below w.heap.size w w')
    (T2 : ∀ w, Calls Tryd.prog 9 #[.agg #[.int .i64 i0, .int .i64 k0]] w fun e w' => e = .returned (.agg #[.int .i64 i, .int .i64 k]) ∧ Below w.heap.size w w')
    (w : World) (hU : Uni w) :
    Calls Tryd.prog 4 #[.agg #[.int .i64 u0, .int .i64 v0], .agg #[.int .i64 i0, .int .i64 k0], .int .i64 d0] w fun e w' => e = .returned (.bool true) ∧ Below w.heap.size w w' := by
  have d1 : 1 ≤ d := by omega
  have d2 : d ≤ 1024 := by omega
  replace T1 : Hid _ := T1
  replace T2 : Hid _ := T2
  go_enter Tryd.func4, Tryd.ntmps4
  go_wp2_with fail
  go_cut [] from 20 (fun wc => wc.cell? ⟨w.heap.size, 0, none⟩ = some (.int .i64 u) ∧ wc.cell? ⟨w.heap.size, 1, none⟩ = some (.int .i64 v) ∧ wc.cell? ⟨w.heap.size + 1, 0, none⟩ = some (.int .i64 i) ∧ wc.cell? ⟨w.heap.size + 1, 1, none⟩ = some (.int .i64 k) ∧ Below w.heap.size w wc)
  case first =>
    go_region_with (first | (go_at_call_of 9 u0; refine (T1.out _).mono ?_; rintro e w9 ⟨rfl, hb⟩; obtain ⟨hc, hf⟩ := bcell hb; have hz : w.heap.size + 1 < w9.heap.size := (by have := hb.size; (try simp at this); omega); have hz0 : w.heap.size < w9.heap.size := (by omega); have hB : Below w.heap.size w w9 := (by first | exact Below.trans (by go_grown) (hb.mono (by simp; try omega)) | exact Below.trans (by assumption) (hb.mono (by omega)))) | (go_at_call_of 9 i0; refine (T2.out _).mono ?_; rintro e w9 ⟨rfl, hb⟩; obtain ⟨hc, hf⟩ := bcell hb; have hz : w.heap.size + 1 < w9.heap.size := (by have := hb.size; (try simp at this); omega); have hz0 : w.heap.size < w9.heap.size := (by omega); have hB : Below w.heap.size w w9 := (by first | exact Below.trans (by go_grown) (hb.mono (by simp; try omega)) | exact Below.trans (by assumption) (hb.mono (by omega))); have s0 : w9.cell? ⟨w.heap.size, 0, none⟩ = some (.int .i64 u0) := (by go_simp); have t0 : w9.frozen? ⟨w.heap.size, 0, none⟩ = false := (by go_simp); have s1 : w9.cell? ⟨w.heap.size, 1, none⟩ = some (.int .i64 v0) := (by go_simp); have t1 : w9.frozen? ⟨w.heap.size, 1, none⟩ = false := (by go_simp); have s2 : w9.cell? ⟨w.heap.size + 1, 0, none⟩ = some (.int .i64 i0) := (by go_simp); have t2 : w9.frozen? ⟨w.heap.size + 1, 0, none⟩ = false := (by go_simp); have s3 : w9.cell? ⟨w.heap.size + 1, 1, none⟩ = some (.int .i64 k0) := (by go_simp); have t3 : w9.frozen? ⟨w.heap.size + 1, 1, none⟩ = false := (by go_simp)))
    all_goals
      go_wp2_with fail
      go_meet
      exact ⟨store_keep (store_keep (store_keep (store_new s0) (by simp)) (by simp)) (by simp), store_keep (store_keep (store_new (store_keep s1 (by simp))) (by simp)) (by simp), store_keep (store_new (store_keep (store_keep s2 (by simp)) (by simp))) (by simp), store_new (store_keep (store_keep (store_keep s3 (by simp)) (by simp)) (by simp)), (((hB.setCell (by simp; try omega) _).setCell (by simp; try omega) _).setCell (by simp; try omega) _).setCell (by simp; try omega) _⟩
  case rest =>
    obtain ⟨p0, p1, p2, p3, hB⟩ := hcut
    have qp0 := World.block_lt_of_cell? _ _ p0
    have qp2 := World.block_lt_of_cell? _ _ p2
    go_wp2_with fail
    refine (eround_see u v d (by omega) (by omega) (by omega) (by omega) d1 (by omega) _).mono ?_
    rintro e w1 ⟨⟨a, b, rfl, hn⟩, d1⟩
    have c1 : Below wc.heap.size wc w1 := Below.trans (by go_grown) (d1.mono (by simp; try omega))
    replace p0 := keepCell c1 p0
    replace qp0 := World.block_lt_of_cell? _ _ p0
    replace p1 := keepCell c1 p1
    replace p2 := keepCell c1 p2
    replace qp2 := World.block_lt_of_cell? _ _ p2
    replace p3 := keepCell c1 p3
    replace hB := belowT hB c1
    clear c1 d1
    have hd1 := step_le (d := d) (i := i) d1 d2 i1 i2
    have hd2 := step_le (d := d) (i := k) d1 d2 k1 k2
    have hm1 := nearest_moved (i := i) (k := k) hn
    have hm2 := nearest_whole (d := d) (i := i) (k := k) (by omega)
    have bx := near_part hn u1 u2 v1 v2 d1 d2
    clear hn
    obtain ⟨p, hp⟩ : ∃ p, d * i = p := ⟨_, rfl⟩
    obtain ⟨q, hq⟩ : ∃ q, d * k = q := ⟨_, rfl⟩
    rw [hp] at hd1
    rw [hq] at hd2
    rw [hp, hq] at hm1 hm2
    obtain ⟨p1', p2'⟩ := hd1
    obtain ⟨q1', q2'⟩ := hd2
    replace hm1 : Hid _ := hm1
    replace hm2 : Hid _ := hm2
    obtain ⟨bx1, bx2, bx3, bx4⟩ := bx
    go_wp2_with fail
    refine (eround_see (u + p) (v + q) d (by omega) (by omega) (by omega) (by omega) d1 (by omega) _).mono ?_
    rintro e w2 ⟨⟨a', b', rfl, hn'⟩, d2⟩
    have c2 : Below w1.heap.size w1 w2 := Below.trans (by go_grown) (d2.mono (by simp; try omega))
    replace p0 := keepCell c2 p0
    replace qp0 := World.block_lt_of_cell? _ _ p0
    replace p1 := keepCell c2 p1
    replace p2 := keepCell c2 p2
    replace qp2 := World.block_lt_of_cell? _ _ p2
    replace p3 := keepCell c2 p3
    have z0 : w2.cell? ⟨w1.heap.size, 0, none⟩ = some (.int .i64 a) := keepCell d2 (by go_simp)
    have qz0 := World.block_lt_of_cell? _ _ z0
    have z1 : w2.cell? ⟨w1.heap.size, 1, none⟩ = some (.int .i64 b) := keepCell d2 (by go_simp)
    replace hB := belowT hB c2
    clear c2 d2
    obtain ⟨rfl, rfl⟩ := nearest_one hm1.out hn'
    clear hn' hm1
    go_wp2_with fail
    refine (eround_see p q d (by omega) (by omega) (by omega) (by omega) d1 (by omega) _).mono ?_
    rintro e w3 ⟨⟨a', b', rfl, hn'⟩, d3⟩
    have c3 : Below w2.heap.size w2 w3 := Below.trans (by go_grown) (d3.mono (by simp; try omega))
    replace p0 := keepCell c3 p0
    replace qp0 := World.block_lt_of_cell? _ _ p0
    replace p1 := keepCell c3 p1
    replace p2 := keepCell c3 p2
    replace qp2 := World.block_lt_of_cell? _ _ p2
    replace p3 := keepCell c3 p3
    replace z0 := keepCell c3 z0
    replace qz0 := World.block_lt_of_cell? _ _ z0
    replace z1 := keepCell c3 z1
    have y0 : w3.cell? ⟨w2.heap.size, 0, none⟩ = some (.int .i64 (a + i)) := keepCell d3 (by go_simp)
    have qy0 := World.block_lt_of_cell? _ _ y0
    have y1 : w3.cell? ⟨w2.heap.size, 1, none⟩ = some (.int .i64 (b + k)) := keepCell d3 (by go_simp)
    replace hB := belowT hB c3
    clear c3 d3
    obtain ⟨rfl, rfl⟩ := nearest_one hm2.out hn'
    clear hn' hm2
    go_wp2_with fail
    refine (awake _ ?_).mono ?_
    · exact hU.below (belowT hB (by go_grown))
    rintro e w4 ⟨rfl, d4⟩
    have c4 : Below w3.heap.size w3 w4 := Below.trans (by go_grown) (d4.mono (by simp; try omega))
    replace p0 := keepCell c4 p0
    replace qp0 := World.block_lt_of_cell? _ _ p0
    replace p1 := keepCell c4 p1
    replace p2 := keepCell c4 p2
    replace qp2 := World.block_lt_of_cell? _ _ p2
    replace p3 := keepCell c4 p3
    replace z0 := keepCell c4 z0
    replace qz0 := World.block_lt_of_cell? _ _ z0
    replace z1 := keepCell c4 z1
    replace y0 := keepCell c4 y0
    replace qy0 := World.block_lt_of_cell? _ _ y0
    replace y1 := keepCell c4 y1
    have x0 : w4.cell? ⟨w3.heap.size, 0, none⟩ = some (.int .i64 i) := keepCell d4 (by go_simp)
    have qx0 := World.block_lt_of_cell? _ _ x0
    have x1 : w4.cell? ⟨w3.heap.size, 1, none⟩ = some (.int .i64 k) := keepCell d4 (by go_simp)
    replace hB := belowT hB c4
    clear c4 d4
    go_wp2
    go_ret
    exact ⟨rfl, hB⟩

theorem eisenMoved_walk (u v i k d : Int) (w : World) (hU : Uni w) :
    Calls Tryd.prog 4 #[.agg #[.int .i64 u, .int .i64 v], .agg #[.int .i64 i, .int .i64 k], .int .i64 d] w fun e w' => e = .returned (.bool true) ∧ Below w.heap.size w w' := by
  have bm : 0 ≤ bits .and .i64 d 1023 ∧ bits .and .i64 d 1023 < 1024 := by rw [mask10]; omega
  have bu := tam_box u
  have bv := tam_box v
  have bi := tam_box i
  have bk := tam_box k
  exact moved_core u v i k d _ _ _ _ _ _ rfl rfl bu.1 bu.2 bv.1 bv.2 bi.1 bi.2 bk.1 bk.2 bm.1 bm.2 (tame_any u v) (tame_any i k) w hU
end Go.Proofs.YtpncnpmikhbmnaaDoor
