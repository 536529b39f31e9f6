/-
  The law EisenNear answers true for every number, divisor and step, in whatever memory where the package's table of Units holds what its text lays: nothing is nearer than the nearest centre, and of those as near none is less.
-/
import Derived.Test.YtpncnpmikhbmnabDoorAwakeE
import Derived.Test.YtpncnpmikhbmnabDoorENear
import Derived.Test.YtpncnpmikhbmnabDoorMask
namespace Go.Proofs.YtpncnpmikhbmnabDoor
open Go.RowKit

set_option maxHeartbeats 1000000 in
theorem far_any (u v a b d p q x y X Y Z : Int) (hp : d * a = p) (hq : d * b = q) (hx : u - p = x) (hy : v - q = y) (hX : x * x = X) (hY : x * y = Y) (hZ : y * y = Z)
    (p1 : -1000000 ≤ p) (p2 : p ≤ 1000000) (q1 : -1000000 ≤ q) (q2 : q ≤ 1000000) (x1 : -1000000 ≤ x) (x2 : x ≤ 1000000) (y1 : -1000000 ≤ y) (y2 : y ≤ 1000000)
    (X1 : 0 ≤ X) (X2 : X ≤ 1000000000000) (Y1 : -1000000000000 ≤ Y) (Y2 : Y ≤ 1000000000000) (Z1 : 0 ≤ Z) (Z2 : Z ≤ 1000000000000) (w : World) :
    Calls Tryd.prog 10 #[.agg #[.int .i64 u, .int .i64 v], .agg #[.int .i64 a, .int .i64 b], .int .i64 d] w fun e w' => e = .returned (.int .i64 (X + Y + Z)) ∧ Below w.heap.size w w' := by
  go_enter Tryd.func10, Tryd.ntmps10
  go_wp2
  go_quiet (fail)
  go_wp2
  go_ret
  exact ⟨rfl, belowN (by go_grown) _⟩

theorem box4 {x y : Int} (x1 : -10000 ≤ x) (x2 : x ≤ 10000) (y1 : -10000 ≤ y) (y2 : y ≤ 10000) : -100000000 ≤ x * y ∧ x * y ≤ 100000000 := by
  have h : (x * y).natAbs ≤ 10000 * 10000 := by rw [Int.natAbs_mul]; exact Nat.mul_le_mul (by omega) (by omega)
  omega
theorem far_small (u v a b d x y : Int) (hx : u - d * a = x) (hy : v - d * b = y) (u1 : -100000 ≤ u) (u2 : u ≤ 100000) (v1 : -100000 ≤ v) (v2 : v ≤ 100000) (x1 : -10000 ≤ x) (x2 : x ≤ 10000) (y1 : -10000 ≤ y) (y2 : y ≤ 10000) (w : World) :
    Calls Tryd.prog 10 #[.agg #[.int .i64 u, .int .i64 v], .agg #[.int .i64 a, .int .i64 b], .int .i64 d] w fun e w' => e = .returned (.int .i64 (normE x y)) ∧ Below w.heap.size w w' := by
  have hX := box4 x1 x2 x1 x2
  have hY := box4 x1 x2 y1 y2
  have hZ := box4 y1 y2 y1 y2
  have sX := (sq_ge x)
  have sZ := (sq_ge y)
  have X0 : 0 ≤ x * x := by omega
  have Z0 : 0 ≤ y * y := by omega
  exact far_any u v a b d (d * a) (d * b) x y (x * x) (x * y) (y * y) rfl rfl hx hy rfl rfl rfl (by omega) (by omega) (by omega) (by omega) (by omega) (by omega) (by omega) (by omega) X0 (by omega) (by omega) (by omega) Z0 (by omega) w

/-- What is so of the nearest centre, and of one i and k steps off. -/
theorem near_facts {d u v a b i k : Int} (hd : 0 < d) (h : Nearest d u v a b) :
    normE (u - d * a) (v - d * b) ≤ normE (u - d * (a + i)) (v - d * (b + k)) ∧ (normE (u - d * (a + i)) (v - d * (b + k)) = normE (u - d * a) (v - d * b) → 0 < i ∨ i = 0 ∧ 0 ≤ k) := by
  have e1 : u - d * (a + i) = u - a * d - i * d := by rw [Int.mul_comm d, Int.add_mul]; omega
  have e2 : v - d * (b + k) = v - b * d - k * d := by rw [Int.mul_comm d, Int.add_mul]; omega
  have e3 : u - d * a = u - a * d := by rw [Int.mul_comm d]
  have e4 : v - d * b = v - b * d := by rw [Int.mul_comm d]
  rw [e1, e2, e3, e4]
  have hn := hex_near (by omega) h.1
  refine ⟨hn i k, fun e => ?_⟩
  have hx : HexAt d u v (a + i) (b + k) := by
    unfold HexAt
    have f1 : u - (a + i) * d = u - a * d - i * d := by rw [Int.add_mul]; omega
    have f2 : v - (b + k) * d = v - b * d - k * d := by rw [Int.add_mul]; omega
    rw [f1, f2]
    refine near_hex hd (fun m n => ?_)
    rw [e]
    have g1 : u - a * d - i * d - m * d = u - a * d - (i + m) * d := by rw [Int.add_mul]; omega
    have g2 : v - b * d - k * d - n * d = v - b * d - (k + n) * d := by rw [Int.add_mul]; omega
    rw [g1, g2]
    exact hn _ _
  have := h.2 _ _ hx
  omega
theorem near_box {d u v a b : Int} (h : Nearest d u v a b) : -d ≤ u - d * a ∧ u - d * a ≤ d ∧ -d ≤ v - d * b ∧ v - d * b ≤ d := by
  have h1 := h.1
  unfold HexAt Hex at h1
  have e3 : d * a = a * d := Int.mul_comm _ _
  have e4 : d * b = b * d := Int.mul_comm _ _
  rw [e3, e4]
  omega
theorem step_box {d a i : Int} (d1 : 1 ≤ d) (d2 : d ≤ 1024) (i1 : -4 < i) (i2 : i < 4) : d * a - 4096 ≤ d * (a + i) ∧ d * (a + i) ≤ d * a + 4096 := by
  have c : i = -3 ∨ i = -2 ∨ i = -1 ∨ i = 0 ∨ i = 1 ∨ i = 2 ∨ i = 3 := by omega
  rw [Int.mul_add]
  rcases c with rfl | rfl | rfl | rfl | rfl | rfl | rfl <;> omega

theorem le_times {d a : Int} (d1 : 1 ≤ d) : (0 ≤ a → a ≤ d * a) ∧ (a ≤ 0 → d * a ≤ a) := by
  constructor
  · intro h
    have := Int.mul_le_mul_of_nonneg_right d1 h
    omega
  · intro h
    have := Int.mul_le_mul_of_nonneg_right d1 (show 0 ≤ -a by omega)
    simp only [Int.mul_neg, Int.one_mul] at this
    omega

set_option maxHeartbeats 1000000 in
theorem eisenNear_walk (u0 v0 d0 i0 k0 : Int) (w : World) (hU : Uni w) :
    Calls Tryd.prog 4 #[.agg #[.int .i64 u0, .int .i64 v0], .int .i64 d0, .agg #[.int .i64 i0, .int .i64 k0]] w fun e w' => e = .returned (.bool true) ∧ Below w.heap.size w w' := by
  have bu := tmod_box u0 100000 (by omega)
  have bv := tmod_box v0 100000 (by omega)
  have bi := tmod_box i0 4 (by omega)
  have bk := tmod_box k0 4 (by omega)
  obtain ⟨u, hu⟩ : ∃ u, u0.tmod 100000 = u := ⟨_, rfl⟩
  obtain ⟨v, hv⟩ : ∃ v, v0.tmod 100000 = v := ⟨_, rfl⟩
  obtain ⟨i, hi⟩ : ∃ i, i0.tmod 4 = i := ⟨_, rfl⟩
  obtain ⟨k, hk⟩ : ∃ k, k0.tmod 4 = k := ⟨_, rfl⟩
  rw [hu] at bu; rw [hv] at bv; rw [hi] at bi; rw [hk] at bk
  obtain ⟨m, hm⟩ : ∃ m, bits .and .i64 d0 1023 = m := ⟨_, rfl⟩
  have bm : 0 ≤ m ∧ m < 1024 := by rw [← hm, mask10]; omega
  obtain ⟨bu1, bu2⟩ := bu
  obtain ⟨bv1, bv2⟩ := bv
  obtain ⟨bi1, bi2⟩ := bi
  obtain ⟨bk1, bk2⟩ := bk
  obtain ⟨bm1, bm2⟩ := bm
  obtain ⟨d, hd⟩ : ∃ d, m + 1 = d := ⟨_, rfl⟩
  have bd1 : 1 ≤ d := by omega
  have bd2 : d ≤ 1024 := by omega
  go_enter Tryd.func4, Tryd.ntmps4
  go_wp2_with fail
  refine (eround_see u v d (by omega) (by omega) (by omega) (by omega) bd1 (by omega) _).mono ?_
  rintro e w1 ⟨⟨a, b, rfl, hn⟩, d1⟩
  have c1 : Below w.heap.size w w1 := Below.trans (by go_grown) (d1.mono (by simp; try omega))
  have x0 : w1.cell? ⟨w.heap.size, 0, none⟩ = some (.int .i64 u) := keepCell d1 (by go_simp)
  have qx0 := World.block_lt_of_cell? _ _ x0
  have x1 : w1.cell? ⟨w.heap.size, 1, none⟩ = some (.int .i64 v) := keepCell d1 (by go_simp)
  have y0 : w1.cell? ⟨w.heap.size + 1, 0, none⟩ = some (.int .i64 i) := keepCell d1 (by go_simp)
  have qy0 := World.block_lt_of_cell? _ _ y0
  have y1 : w1.cell? ⟨w.heap.size + 1, 1, none⟩ = some (.int .i64 k) := keepCell d1 (by go_simp)
  have hB := c1
  clear c1 d1
  obtain ⟨nb1, nb2, nb3, nb4⟩ := near_box hn
  obtain ⟨nf1, nf2⟩ := near_facts (i := i) (k := k) (by omega) hn
  have sa := step_box (a := a) bd1 bd2 bi1 bi2
  have sb := step_box (a := b) bd1 bd2 bk1 bk2
  clear hn
  have FA : Hid (∀ w, Calls Tryd.prog 10 #[.agg #[.int .i64 u, .int .i64 v], .agg #[.int .i64 a, .int .i64 b], .int .i64 d] w fun e w' => e = .returned (.int .i64 (normE (u - d * a) (v - d * b))) ∧ Below w.heap.size w w') := far_small u v a b d _ _ rfl rfl (by omega) (by omega) (by omega) (by omega) (by omega) (by omega) (by omega) (by omega)
  have FN : Hid (∀ w, Calls Tryd.prog 10 #[.agg #[.int .i64 u, .int .i64 v], .agg #[.int .i64 (a + i), .int .i64 (b + k)], .int .i64 d] w fun e w' => e = .returned (.int .i64 (normE (u - d * (a + i)) (v - d * (b + k)))) ∧ Below w.heap.size w w') := far_small u v (a + i) (b + k) d _ _ rfl rfl (by omega) (by omega) (by omega) (by omega) (by omega) (by omega) (by omega) (by omega)
  generalize normE (u - d * a) (v - d * b) = A at nf1 nf2 FA
  generalize normE (u - d * (a + i)) (v - d * (b + k)) = N at nf1 nf2 FN
  have ab : -200000 ≤ a ∧ a ≤ 200000 ∧ -200000 ≤ b ∧ b ≤ 200000 := by
    have da := le_times bd1 (a := a)
    have db := le_times bd1 (a := b)
    omega
  obtain ⟨ab1, ab2, ab3, ab4⟩ := ab
  obtain ⟨p, hp⟩ : ∃ p, a + i = p := ⟨_, rfl⟩
  obtain ⟨q, hq⟩ : ∃ q, b + k = q := ⟨_, rfl⟩
  rw [hp, hq] at FN
  have hc : A < N ∨ (decide (A < N) = false ∧ (A == N) = true ∧ (a < p ∨ (decide (a < p) = false ∧ (a == p) = true ∧ b ≤ q))) := by
    by_cases h : A < N
    · exact Or.inl h
    · refine Or.inr ⟨df h, by simp; omega, ?_⟩
      have := nf2 (by omega)
      simp
      omega
  clear nb1 nb2 nb3 nb4 nf1 nf2 sa sb
  go_wp2_with fail
  refine (FA.out _).mono ?_
  rintro e w2 ⟨rfl, d2⟩
  have c2 : Below w1.heap.size w1 w2 := Below.trans (by go_grown) (d2.mono (by simp; try omega))
  replace x0 := keepCell c2 x0
  replace qx0 := World.block_lt_of_cell? _ _ x0
  replace x1 := keepCell c2 x1
  replace y0 := keepCell c2 y0
  replace qy0 := World.block_lt_of_cell? _ _ y0
  replace y1 := keepCell c2 y1
  have z0 : w2.cell? ⟨w1.heap.size, 0, none⟩ = some (.int .i64 a) := keepCell d2 (by go_simp)
  have qz0 := World.block_lt_of_cell? _ _ z0
  have z1 : w2.cell? ⟨w1.heap.size, 1, none⟩ = some (.int .i64 b) := keepCell d2 (by go_simp)
  replace hB := belowT hB c2
  clear c2 d2
  go_wp2_with fail
  refine (FN.out _).mono ?_
  rintro e w3 ⟨rfl, d3⟩
  have c3 : Below w2.heap.size w2 w3 := Below.trans (by go_grown) (d3.mono (by simp; try omega))
  replace x0 := keepCell c3 x0
  replace qx0 := World.block_lt_of_cell? _ _ x0
  replace x1 := keepCell c3 x1
  replace y0 := keepCell c3 y0
  replace qy0 := World.block_lt_of_cell? _ _ y0
  replace y1 := keepCell c3 y1
  replace z0 := keepCell c3 z0
  replace qz0 := World.block_lt_of_cell? _ _ z0
  replace z1 := keepCell c3 z1
  have o0 : w3.cell? ⟨w2.heap.size, 0, none⟩ = some (.int .i64 p) := keepCell d3 (by go_simp)
  have qo0 := World.block_lt_of_cell? _ _ o0
  have o1 : w3.cell? ⟨w2.heap.size, 1, none⟩ = some (.int .i64 q) := keepCell d3 (by go_simp)
  replace hB := belowT hB c3
  clear c3 d3
  rcases hc with h | ⟨h, h', h2 | ⟨h2, h3, h4⟩⟩
  · by_cases g1 : a < p
    · clear hp hq
      go_wp2_with fail
      refine (awake _ ?_).mono ?_
      · exact hU.below (belowT hB (by go_grown))
      rintro e w4 ⟨rfl, d4⟩
      have c4 : Below w3.heap.size w3 w4 := Below.trans (by go_grown) (d4.mono (by simp; try omega))
      replace x0 := keepCell c4 x0
      replace qx0 := World.block_lt_of_cell? _ _ x0
      replace x1 := keepCell c4 x1
      replace y0 := keepCell c4 y0
      replace qy0 := World.block_lt_of_cell? _ _ y0
      replace y1 := keepCell c4 y1
      replace z0 := keepCell c4 z0
      replace qz0 := World.block_lt_of_cell? _ _ z0
      replace z1 := keepCell c4 z1
      replace o0 := keepCell c4 o0
      replace qo0 := World.block_lt_of_cell? _ _ o0
      replace o1 := keepCell c4 o1
      replace hB := belowT hB c4
      clear c4 d4
      go_wp2
      go_ret
      exact ⟨rfl, hB⟩
    · have g1' := df g1
      cases g2 : (a == p) with
      | true =>
        by_cases g3 : b ≤ q
        · clear hp hq
          go_wp2_with fail
          refine (awake _ ?_).mono ?_
          · exact hU.below (belowT hB (by go_grown))
          rintro e w4 ⟨rfl, d4⟩
          have c4 : Below w3.heap.size w3 w4 := Below.trans (by go_grown) (d4.mono (by simp; try omega))
          replace x0 := keepCell c4 x0
          replace qx0 := World.block_lt_of_cell? _ _ x0
          replace x1 := keepCell c4 x1
          replace y0 := keepCell c4 y0
          replace qy0 := World.block_lt_of_cell? _ _ y0
          replace y1 := keepCell c4 y1
          replace z0 := keepCell c4 z0
          replace qz0 := World.block_lt_of_cell? _ _ z0
          replace z1 := keepCell c4 z1
          replace o0 := keepCell c4 o0
          replace qo0 := World.block_lt_of_cell? _ _ o0
          replace o1 := keepCell c4 o1
          replace hB := belowT hB c4
          clear c4 d4
          go_wp2
          go_ret
          exact ⟨rfl, hB⟩
        · have g3' := df g3
          clear hp hq
          go_wp2_with fail
          refine (awake _ ?_).mono ?_
          · exact hU.below (belowT hB (by go_grown))
          rintro e w4 ⟨rfl, d4⟩
          have c4 : Below w3.heap.size w3 w4 := Below.trans (by go_grown) (d4.mono (by simp; try omega))
          replace x0 := keepCell c4 x0
          replace qx0 := World.block_lt_of_cell? _ _ x0
          replace x1 := keepCell c4 x1
          replace y0 := keepCell c4 y0
          replace qy0 := World.block_lt_of_cell? _ _ y0
          replace y1 := keepCell c4 y1
          replace z0 := keepCell c4 z0
          replace qz0 := World.block_lt_of_cell? _ _ z0
          replace z1 := keepCell c4 z1
          replace o0 := keepCell c4 o0
          replace qo0 := World.block_lt_of_cell? _ _ o0
          replace o1 := keepCell c4 o1
          replace hB := belowT hB c4
          clear c4 d4
          go_wp2
          go_ret
          exact ⟨rfl, hB⟩
      | false =>
        clear hp hq
        go_wp2_with fail
        refine (awake _ ?_).mono ?_
        · exact hU.below (belowT hB (by go_grown))
        rintro e w4 ⟨rfl, d4⟩
        have c4 : Below w3.heap.size w3 w4 := Below.trans (by go_grown) (d4.mono (by simp; try omega))
        replace x0 := keepCell c4 x0
        replace qx0 := World.block_lt_of_cell? _ _ x0
        replace x1 := keepCell c4 x1
        replace y0 := keepCell c4 y0
        replace qy0 := World.block_lt_of_cell? _ _ y0
        replace y1 := keepCell c4 y1
        replace z0 := keepCell c4 z0
        replace qz0 := World.block_lt_of_cell? _ _ z0
        replace z1 := keepCell c4 z1
        replace o0 := keepCell c4 o0
        replace qo0 := World.block_lt_of_cell? _ _ o0
        replace o1 := keepCell c4 o1
        replace hB := belowT hB c4
        clear c4 d4
        go_wp2
        go_ret
        exact ⟨rfl, hB⟩
  · clear hp hq
    go_wp2_with fail
    refine (awake _ ?_).mono ?_
    · exact hU.below (belowT hB (by go_grown))
    rintro e w4 ⟨rfl, d4⟩
    have c4 : Below w3.heap.size w3 w4 := Below.trans (by go_grown) (d4.mono (by simp; try omega))
    replace x0 := keepCell c4 x0
    replace qx0 := World.block_lt_of_cell? _ _ x0
    replace x1 := keepCell c4 x1
    replace y0 := keepCell c4 y0
    replace qy0 := World.block_lt_of_cell? _ _ y0
    replace y1 := keepCell c4 y1
    replace z0 := keepCell c4 z0
    replace qz0 := World.block_lt_of_cell? _ _ z0
    replace z1 := keepCell c4 z1
    replace o0 := keepCell c4 o0
    replace qo0 := World.block_lt_of_cell? _ _ o0
    replace o1 := keepCell c4 o1
    replace hB := belowT hB c4
    clear c4 d4
    go_wp2
    go_ret
    exact ⟨rfl, hB⟩
  · clear hp hq
    go_wp2_with fail
    refine (awake _ ?_).mono ?_
    · exact hU.below (belowT hB (by go_grown))
    rintro e w4 ⟨rfl, d4⟩
    have c4 : Below w3.heap.size w3 w4 := Below.trans (by go_grown) (d4.mono (by simp; try omega))
    replace x0 := keepCell c4 x0
    replace qx0 := World.block_lt_of_cell? _ _ x0
    replace x1 := keepCell c4 x1
    replace y0 := keepCell c4 y0
    replace qy0 := World.block_lt_of_cell? _ _ y0
    replace y1 := keepCell c4 y1
    replace z0 := keepCell c4 z0
    replace qz0 := World.block_lt_of_cell? _ _ z0
    replace z1 := keepCell c4 z1
    replace o0 := keepCell c4 o0
    replace qo0 := World.block_lt_of_cell? _ _ o0
    replace o1 := keepCell c4 o1
    replace hB := belowT hB c4
    clear c4 d4
    go_wp2
    go_ret
    exact ⟨rfl, hB⟩
end Go.Proofs.YtpncnpmikhbmnabDoor
