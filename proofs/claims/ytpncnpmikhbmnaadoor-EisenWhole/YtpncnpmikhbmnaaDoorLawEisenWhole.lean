/-
  The law EisenWhole answers true for every number, divisor and Unit, in whatever memory where the package's table of Units holds what its text lays: what the rounding leaves is as near to nought as to any Unit times the divisor, and its Norm is at most a third of the divisor's square.
-/
import Derived.Test.YtpncnpmikhbmnaaDoorAwakeE
import Derived.Test.YtpncnpmikhbmnaaDoorENear
import Derived.Test.YtpncnpmikhbmnaaDoorESmall
namespace Go.Proofs.YtpncnpmikhbmnaaDoor
open Go.RowKit

theorem norm_hex {b c d : Int} (b1 : -d ≤ b) (b2 : b ≤ d) (c1 : -d ≤ c) (c2 : c ≤ d) (e1 : -d ≤ b + c) (e2 : b + c ≤ d) : normE b c ≤ d * d := by
  have sq : ∀ x : Int, -d ≤ x → x ≤ d → x * x ≤ d * d := fun x x1 x2 => by
    have h : (x * x).natAbs ≤ d.natAbs * d.natAbs := by rw [Int.natAbs_mul]; exact Nat.mul_le_mul (by omega) (by omega)
    have g1 : 0 ≤ x * x := by have := sq_ge x; omega
    have g2 : (d.natAbs * d.natAbs : Nat) = (d * d).natAbs := by rw [Int.natAbs_mul]
    have g3 : 0 ≤ d * d := by have := sq_ge d; omega
    omega
  have qb := sq b b1 b2
  have qc := sq c c1 c2
  have qe := sq (b + c) e1 e2
  have ee : (b + c) * (b + c) = b * b + 2 * (b * c) + c * c := by grind
  unfold normE
  by_cases hb : 0 ≤ b
  · by_cases hc : 0 ≤ c
    · have := Int.mul_nonneg hb hc
      omega
    · by_cases h : -c ≤ b
      · have h1 := Int.mul_nonneg (show 0 ≤ -c by omega) (show 0 ≤ b + c by omega)
        have h2 : -c * (b + c) = -(b * c) - c * c := by grind
        omega
      · have h1 := Int.mul_nonneg hb (show 0 ≤ -c - b by omega)
        have h2 : b * (-c - b) = -(b * c) - b * b := by grind
        omega
  · by_cases hc : 0 ≤ c
    · by_cases h : -b ≤ c
      · have h1 := Int.mul_nonneg (show 0 ≤ -b by omega) (show 0 ≤ b + c by omega)
        have h2 : -b * (b + c) = -(b * c) - b * b := by grind
        omega
      · have h1 := Int.mul_nonneg hc (show 0 ≤ -b - c by omega)
        have h2 : c * (-b - c) = -(b * c) - c * c := by grind
        omega
    · have h1 := Int.mul_nonneg (show 0 ≤ -b by omega) (show 0 ≤ -c by omega)
      rw [Int.neg_mul_neg] at h1
      omega

/-- What the hexagon says of a remainder: no step of the lattice times the divisor is nearer; three Norms are at most the divisor's square. -/
theorem hex_whole {d s t : Int} (hd : 0 ≤ d) (h : Hex d s t) (i k : Int) : normE s t ≤ normE (s - d * i) (t - d * k) ∧ 3 * normE s t ≤ d * d := by
  have h1 := hex_near hd h i k
  rw [Int.mul_comm i d, Int.mul_comm k d] at h1
  refine ⟨h1, ?_⟩
  obtain ⟨g1, g2, g3⟩ := h
  have e : normE (s + 2 * t) (s - t) = 3 * normE s t := by unfold normE; grind
  rw [← e]
  exact norm_hex g2.1 g2.2 g3.1 g3.2 (by omega) (by omega)
set_option maxHeartbeats 2000000 in
set_option maxRecDepth 20000 in
theorem whole_core (u0 v0 d0 j u v m d ua ub : Int) (hm : bits .and .i64 d0 1023 = m) (hd : m + 1 = d) (u1 : -16384 < u) (u2 : u < 16384) (v1 : -16384 < v) (v2 : v < 16384) (m1 : 0 ≤ m) (m2 : m < 1024) (ua1 : -1 ≤ ua) (ua2 : ua ≤ 1) (ub1 : -1 ≤ ub) (ub2 : ub ≤ 1)
    (T1 : ∀ w, Calls Tryd.prog 9 #[.agg #[.int .i64 u0, .int .i64 v0]] w fun e w' => e = .returned (.agg #[.int .i64 u, .int .i64 v]) ∧ Below w.heap.size w w')
    (UN : ∀ w, Uni w → Calls Tryd.prog 11 #[.int .i64 j] w fun e w' => e = .returned (.agg #[.int .i64 ua, .int .i64 ub]) ∧ Below w.heap.size w w')
    (w : World) (hU : Uni w) :
    Calls Tryd.prog 6 #[.agg #[.int .i64 u0, .int .i64 v0], .int .i64 d0, .int .i64 j] w fun e w' => e = .returned (.bool true) ∧ Below w.heap.size w w' := by
  have d1 : 1 ≤ d := by omega
  have d2 : d ≤ 1024 := by omega
  replace T1 : Hid _ := T1
  replace UN : Hid _ := UN
  go_enter Tryd.func6, Tryd.ntmps6
  go_wp2_with fail
  refine (T1.out _).mono ?_
  rintro e w1 ⟨rfl, d1⟩
  have c1 : Below w.heap.size w w1 := Below.trans (by go_grown) (d1.mono (by simp; try omega))
  have p0 : w1.cell? ⟨w.heap.size, 0, none⟩ = some (.int .i64 u0) := keepCell d1 (by go_simp)
  have fp0 : w1.frozen? ⟨w.heap.size, 0, none⟩ = false := keepFrozen (v := .int .i64 u0) d1 (by go_simp) (by go_simp)
  have qp0 := World.block_lt_of_cell? _ _ p0
  have p1 : w1.cell? ⟨w.heap.size, 1, none⟩ = some (.int .i64 v0) := keepCell d1 (by go_simp)
  have fp1 : w1.frozen? ⟨w.heap.size, 1, none⟩ = false := keepFrozen (v := .int .i64 v0) d1 (by go_simp) (by go_simp)
  have hB := c1
  clear c1 d1
  go_wp2_with fail
  have b0 := store_keep (u := .int .i64 v) (q := ⟨w.heap.size, 1, none⟩) (store_new (u := .int .i64 u) p0) (by simp)
  have b1 := store_new (u := .int .i64 v) (store_keep (u := .int .i64 u) (q := ⟨w.heap.size, 0, none⟩) p1 (by simp))
  replace hB := (hB.setCell (p := ⟨w.heap.size, 0, none⟩) (by simp; try omega) (.int .i64 u)).setCell (p := ⟨w.heap.size, 1, none⟩) (by simp; try omega) (.int .i64 v)
  clear p0 p1 fp0 fp1 qp0
  generalize (w1.setCell ⟨w.heap.size, 0, none⟩ (.int .i64 u)).setCell ⟨w.heap.size, 1, none⟩ (.int .i64 v) = wc at b0 b1 hB ⊢
  have qb0 := World.block_lt_of_cell? _ _ b0
  go_wp2_with fail
  refine (eround_see u v d (by omega) (by omega) (by omega) (by omega) d1 (by omega) _).mono ?_
  rintro e w1 ⟨⟨a, b, rfl, hn⟩, d1⟩
  have c1 : Below wc.heap.size wc w1 := Below.trans (by go_grown) (d1.mono (by simp; try omega))
  replace b0 := keepCell c1 b0
  replace qb0 := World.block_lt_of_cell? _ _ b0
  replace b1 := keepCell c1 b1
  replace hB := belowT hB c1
  clear c1 d1
  have nb := hn.1
  clear hn
  unfold HexAt at nb
  rw [Int.mul_comm a d, Int.mul_comm b d] at nb
  have g := hex_whole (by omega) nb ua ub
  obtain ⟨nb1, nb2, nb3⟩ := nb
  obtain ⟨p, hp⟩ : ∃ p, d * a = p := ⟨_, rfl⟩
  obtain ⟨q, hq⟩ : ∃ q, d * b = q := ⟨_, rfl⟩
  obtain ⟨pa, hpa⟩ : ∃ pa, d * ua = pa := ⟨_, rfl⟩
  obtain ⟨pb, hpb⟩ : ∃ pb, d * ub = pb := ⟨_, rfl⟩
  have bpa : -d ≤ pa ∧ pa ≤ d := by
    rw [← hpa]
    have c : ua = -1 ∨ ua = 0 ∨ ua = 1 := by omega
    rcases c with rfl | rfl | rfl <;> omega
  have bpb : -d ≤ pb ∧ pb ≤ d := by
    rw [← hpb]
    have c : ub = -1 ∨ ub = 0 ∨ ub = 1 := by omega
    rcases c with rfl | rfl | rfl <;> omega
  have hQ : d * d ≤ 1024 * 1024 := Int.mul_le_mul d2 d2 (by omega) (by omega)
  obtain ⟨Q, hQQ⟩ : ∃ Q, d * d = Q := ⟨_, rfl⟩
  rw [hQQ] at g hQ
  rw [hp, hq] at nb1 nb2 nb3
  rw [hp, hq, hpa, hpb] at g
  obtain ⟨x, hx⟩ : ∃ x, u - p = x := ⟨_, rfl⟩
  obtain ⟨y, hy⟩ : ∃ y, v - q = y := ⟨_, rfl⟩
  rw [hx, hy] at nb1 nb2 nb3 g
  have x1 : -1024 ≤ x := by omega
  have x2 : x ≤ 1024 := by omega
  have y1 : -1024 ≤ y := by omega
  have y2 : y ≤ 1024 := by omega
  have p1 : -20000 ≤ p := by omega
  have p2 : p ≤ 20000 := by omega
  have q1 : -20000 ≤ q := by omega
  have q2 : q ≤ 20000 := by omega
  obtain ⟨pa1, pa2⟩ := bpa
  obtain ⟨pb1, pb2⟩ := bpb
  obtain ⟨N, hN⟩ : ∃ N, normE x y = N := ⟨_, rfl⟩
  obtain ⟨M, hM⟩ : ∃ M, normE (x - pa) (y - pb) = M := ⟨_, rfl⟩
  have sN := norm_small (x := x) (y := y) (B := 4096) ⟨by omega, by omega, by omega, by omega⟩
  have sM := norm_small (x := x - pa) (y := y - pb) (B := 4096) ⟨by omega, by omega, by omega, by omega⟩
  have N0 := norm_pos x y
  rw [hN] at sN N0 g
  rw [hM] at sM g
  have C1 := enorm_small x y N hN (by omega) (by omega) (by omega) (by omega) (by omega)
  have C2 := enorm_small (x - pa) (y - pb) M hM (by omega) (by omega) (by omega) (by omega) (by omega)
  replace C1 : Hid _ := C1
  replace C2 : Hid _ := C2
  obtain ⟨g1, g2⟩ := g
  have N3 : N ≤ 100000000 := by omega
  have pa3 : -1024 ≤ pa := by omega
  have pa4 : pa ≤ 1024 := by omega
  have pb3 : -1024 ≤ pb := by omega
  have pb4 : pb ≤ 1024 := by omega
  clear hN hM nb1 nb2 nb3 sN sM pa1 pa2 pb1 pb2
  go_wp2_with fail
  refine (UN.out _ ?_).mono ?_
  · exact hU.below (belowT hB (by go_grown))
  rintro e w2 ⟨rfl, d2⟩
  have c2 : Below w1.heap.size w1 w2 := Below.trans (by go_grown) (d2.mono (by simp; try omega))
  replace b0 := keepCell c2 b0
  replace qb0 := World.block_lt_of_cell? _ _ b0
  replace b1 := keepCell c2 b1
  have z0 : w2.cell? ⟨w1.heap.size, 0, none⟩ = some (.int .i64 a) := keepCell d2 (by go_simp)
  have qz0 := World.block_lt_of_cell? _ _ z0
  have z1 : w2.cell? ⟨w1.heap.size, 1, none⟩ = some (.int .i64 b) := keepCell d2 (by go_simp)
  have r0 : w2.cell? ⟨w1.heap.size + 1, 0, none⟩ = some (.int .i64 x) := keepCell d2 (by go_simp)
  have qr0 := World.block_lt_of_cell? _ _ r0
  have r1 : w2.cell? ⟨w1.heap.size + 1, 1, none⟩ = some (.int .i64 y) := keepCell d2 (by go_simp)
  replace hB := belowT hB c2
  clear c2 d2
  go_wp2_with fail
  refine (C1.out _).mono ?_
  rintro e w3 ⟨rfl, d3⟩
  have c3 : Below w2.heap.size w2 w3 := Below.trans (by go_grown) (d3.mono (by simp; try omega))
  replace b0 := keepCell c3 b0
  replace qb0 := World.block_lt_of_cell? _ _ b0
  replace b1 := keepCell c3 b1
  replace z0 := keepCell c3 z0
  replace qz0 := World.block_lt_of_cell? _ _ z0
  replace z1 := keepCell c3 z1
  replace r0 := keepCell c3 r0
  replace qr0 := World.block_lt_of_cell? _ _ r0
  replace r1 := keepCell c3 r1
  have g0 : w3.cell? ⟨w2.heap.size, 0, none⟩ = some (.int .i64 ua) := keepCell d3 (by go_simp)
  have qg0 := World.block_lt_of_cell? _ _ g0
  have g3 : w3.cell? ⟨w2.heap.size, 1, none⟩ = some (.int .i64 ub) := keepCell d3 (by go_simp)
  replace hB := belowT hB c3
  clear c3 d3
  go_wp2_with fail
  refine (C2.out _).mono ?_
  rintro e w4 ⟨rfl, d4⟩
  have c4 : Below w3.heap.size w3 w4 := Below.trans (by go_grown) (d4.mono (by simp; try omega))
  replace b0 := keepCell c4 b0
  replace qb0 := World.block_lt_of_cell? _ _ b0
  replace b1 := keepCell c4 b1
  replace z0 := keepCell c4 z0
  replace qz0 := World.block_lt_of_cell? _ _ z0
  replace z1 := keepCell c4 z1
  replace r0 := keepCell c4 r0
  replace qr0 := World.block_lt_of_cell? _ _ r0
  replace r1 := keepCell c4 r1
  replace g0 := keepCell c4 g0
  replace qg0 := World.block_lt_of_cell? _ _ g0
  replace g3 := keepCell c4 g3
  replace hB := belowT hB c4
  clear c4 d4
  go_wp2_with fail
  refine (awake _ ?_).mono ?_
  · exact hU.below (belowT hB (by go_grown))
  rintro e w5 ⟨rfl, d5⟩
  have c5 : Below w4.heap.size w4 w5 := Below.trans (by go_grown) (d5.mono (by simp; try omega))
  replace b0 := keepCell c5 b0
  replace qb0 := World.block_lt_of_cell? _ _ b0
  replace b1 := keepCell c5 b1
  replace z0 := keepCell c5 z0
  replace qz0 := World.block_lt_of_cell? _ _ z0
  replace z1 := keepCell c5 z1
  replace r0 := keepCell c5 r0
  replace qr0 := World.block_lt_of_cell? _ _ r0
  replace r1 := keepCell c5 r1
  replace g0 := keepCell c5 g0
  replace qg0 := World.block_lt_of_cell? _ _ g0
  replace g3 := keepCell c5 g3
  replace hB := belowT hB c5
  clear c5 d5
  go_wp2
  go_ret
  exact ⟨rfl, hB⟩

theorem unit_box (j : Int) : -1 ≤ unitA (j % 6) ∧ unitA (j % 6) ≤ 1 ∧ -1 ≤ unitB (j % 6) ∧ unitB (j % 6) ≤ 1 := by
  have hc : j % 6 = 0 ∨ j % 6 = 1 ∨ j % 6 = 2 ∨ j % 6 = 3 ∨ j % 6 = 4 ∨ j % 6 = 5 := by omega
  rcases hc with h | h | h | h | h | h <;> rw [h] <;> decide
theorem eisenWhole_walk (u v d j : Int) (_u1 : -9223372036854775808 ≤ u) (_u2 : u ≤ 9223372036854775807) (_v1 : -9223372036854775808 ≤ v) (_v2 : v ≤ 9223372036854775807) (_d1 : -9223372036854775808 ≤ d) (_d2 : d ≤ 9223372036854775807) (j1 : -9223372036854775808 ≤ j) (j2 : j ≤ 9223372036854775807) (w : World) (hU : Uni w) :
    Calls Tryd.prog 6 #[.agg #[.int .i64 u, .int .i64 v], .int .i64 d, .int .i64 j] w fun e w' => e = .returned (.bool true) ∧ Below w.heap.size w w' := by
  have bm : 0 ≤ bits .and .i64 d 1023 ∧ bits .and .i64 d 1023 < 1024 := by rw [mask10]; omega
  have bu := tam_box u
  have bv := tam_box v
  have bj := unit_box j
  exact whole_core u v d j _ _ _ _ _ _ rfl rfl bu.1 bu.2 bv.1 bv.2 bm.1 bm.2 bj.1 bj.2.1 bj.2.2.1 bj.2.2.2 (tame_any u v) (fun w hU => eunit_any j j1 j2 w hU) w hU
end Go.Proofs.YtpncnpmikhbmnaaDoor
