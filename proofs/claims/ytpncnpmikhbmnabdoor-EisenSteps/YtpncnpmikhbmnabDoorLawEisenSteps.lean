/-
  The law EisenSteps answers true for every two numbers and every Unit, in whatever memory where the package's table of Units holds what its text lays: steps are a metric, and a Unit is one step.
-/
import Derived.Test.YtpncnpmikhbmnabDoorAwakeE
import Derived.Test.YtpncnpmikhbmnabDoorESteps
import Derived.Test.YtpncnpmikhbmnabDoorESmall
import Derived.Deep.RegionHeld3
import Derived.Deep.CutRange
import Derived.BigRegion
namespace Go.Proofs.YtpncnpmikhbmnabDoor
open Go.RowKit

/-- Steps, where all is small. -/
def stp (a b : Int) : Int := mostN a b 3
theorem stp_eq (a b : Int) : stp a b = max (max (max 0 (a.natAbs : Int)) (b.natAbs : Int)) ((a + b).natAbs : Int) := rfl
theorem stp_ge (a b : Int) : 0 ≤ stp a b ∧ (-(stp a b) ≤ a ∧ a ≤ stp a b) ∧ (-(stp a b) ≤ b ∧ b ≤ stp a b) ∧ (-(stp a b) ≤ a + b ∧ a + b ≤ stp a b) := by
  rw [stp_eq]
  have h1 := Int.le_max_left (max (max 0 (a.natAbs : Int)) (b.natAbs : Int)) ((a + b).natAbs : Int)
  have h2 := Int.le_max_right (max (max 0 (a.natAbs : Int)) (b.natAbs : Int)) ((a + b).natAbs : Int)
  have h3 := Int.le_max_left (max 0 (a.natAbs : Int)) (b.natAbs : Int)
  have h4 := Int.le_max_right (max 0 (a.natAbs : Int)) (b.natAbs : Int)
  have h5 := Int.le_max_right 0 (a.natAbs : Int)
  generalize max 0 (a.natAbs : Int) = x at *
  generalize max x (b.natAbs : Int) = y at *
  generalize max y ((a + b).natAbs : Int) = z at *
  omega
theorem stp_le {a b n : Int} (h0 : 0 ≤ n) (ha : -n ≤ a ∧ a ≤ n) (hb : -n ≤ b ∧ b ≤ n) (hc : -n ≤ a + b ∧ a + b ≤ n) : stp a b ≤ n := by
  rw [stp_eq]
  exact Int.max_le.2 ⟨Int.max_le.2 ⟨Int.max_le.2 ⟨h0, by omega⟩, by omega⟩, by omega⟩
theorem stp_neg (a b : Int) : stp (-a) (-b) = stp a b := by
  have h1 := stp_ge a b
  have h2 := stp_ge (-a) (-b)
  have h3 : stp (-a) (-b) ≤ stp a b := stp_le h1.1 (by omega) (by omega) (by omega)
  have h4 : stp a b ≤ stp (-a) (-b) := stp_le h2.1 (by omega) (by omega) (by omega)
  omega
theorem stp_nil {a b : Int} (ha : a = 0) (hb : b = 0) : stp a b = 0 := by
  subst ha; subst hb
  have h1 := stp_ge 0 0
  have h2 : stp 0 0 ≤ 0 := stp_le (by omega) (by omega) (by omega) (by omega)
  omega
theorem stp_add (a b c d : Int) : stp (a + c) (b + d) ≤ stp a b + stp c d := by
  have h1 := stp_ge a b
  have h2 := stp_ge c d
  generalize stp a b = n at *
  generalize stp c d = m at *
  exact stp_le (by omega) (by omega) (by omega) (by omega)
theorem stp_box {a b B : Int} (h0 : 0 ≤ B) (a1 : -B ≤ a) (a2 : a ≤ B) (b1 : -B ≤ b) (b2 : b ≤ B) : 0 ≤ stp a b ∧ stp a b ≤ 2 * B := ⟨(stp_ge a b).1, stp_le (by omega) (by omega) (by omega) (by omega)⟩
theorem esteps_small (a b : Int) (a1 : -4611686018427387903 ≤ a) (a2 : a ≤ 4611686018427387903) (b1 : -4611686018427387903 ≤ b) (b2 : b ≤ 4611686018427387903) (w : World) :
    Calls Tryd.prog 16 #[.agg #[.int .i64 a, .int .i64 b]] w fun e w' => e = .returned (.tuple #[.int .i64 (stp a b), .bool true]) ∧ Below w.heap.size w w' := by
  refine (esteps_see a b (by omega) (by omega) (by omega) (by omega) w).mono fun e w' ⟨he, hb⟩ => ⟨?_, hb⟩
  rcases he with ⟨_, he⟩ | ⟨hn, _⟩
  · exact he
  · exfalso
    refine hn fun j hj => ?_
    have cj : j = 0 ∨ j = 1 ∨ j = 2 := by omega
    rcases cj with rfl | rfl | rfl
    · show _ < a ∧ a ≤ _; omega
    · show _ < b ∧ b ≤ _; omega
    · show _ < a + b ∧ a + b ≤ _; omega
/-- A part by truncation. -/
def par (n : Int) : Int := n.tmod 1099511627776
theorem par_box (n : Int) : -1099511627776 < par n ∧ par n < 1099511627776 := tmod_box n 1099511627776 (by omega)

set_option maxHeartbeats 20000000 in
set_option maxRecDepth 20000 in
theorem steps_core (a0 b0 c0 d0 k a b c d ua ub : Int) (ha : a0.tmod 1099511627776 = a) (hb : b0.tmod 1099511627776 = b) (hc : c0.tmod 1099511627776 = c) (hd : d0.tmod 1099511627776 = d)
    (a1 : -1099511627776 < a) (a2 : a < 1099511627776) (b1 : -1099511627776 < b) (b2 : b < 1099511627776) (c1 : -1099511627776 < c) (c2 : c < 1099511627776) (d1 : -1099511627776 < d) (d2 : d < 1099511627776)
    (UN : ∀ w, Uni w → Calls Tryd.prog 17 #[.int .i64 k] w fun e w' => e = .returned (.agg #[.int .i64 ua, .int .i64 ub]) ∧ Below w.heap.size w w')
    (US : ∀ w, Calls Tryd.prog 16 #[.agg #[.int .i64 ua, .int .i64 ub]] w fun e w' => e = .returned (.tuple #[.int .i64 1, .bool true]) ∧ Below w.heap.size w w')
    (w : World) (hU : Uni w) :
    Calls Tryd.prog 6 #[.agg #[.int .i64 a0, .int .i64 b0], .agg #[.int .i64 c0, .int .i64 d0], .int .i64 k] w fun e w' => e = .returned (.bool true) ∧ Below w.heap.size w w' := by
  replace UN : Hid _ := UN
  replace US : Hid _ := US
  go_enter Tryd.func6, Tryd.ntmps6
  go_wp2_with fail
  go_cut [] from 19 (fun wc => wc.cell? ⟨w.heap.size, 0, none⟩ = some (.int .i64 a) ∧ wc.cell? ⟨w.heap.size, 1, none⟩ = some (.int .i64 b) ∧ wc.cell? ⟨w.heap.size + 1, 0, none⟩ = some (.int .i64 c) ∧ wc.cell? ⟨w.heap.size + 1, 1, none⟩ = some (.int .i64 d) ∧ Below w.heap.size w wc)
  case first =>
    go_big_region
    all_goals
      go_wp2_with fail
      go_meet
      exact ⟨by go_simp, by go_simp, by go_simp, by go_simp, by go_grown⟩
  case rest =>
    obtain ⟨p0, p1, p2, p3, hB⟩ := hcut
    have qp0 := World.block_lt_of_cell? _ _ p0
    have qp2 := World.block_lt_of_cell? _ _ p2
    have S1 := esteps_small a b (by omega) (by omega) (by omega) (by omega)
    have S2 := esteps_small c d (by omega) (by omega) (by omega) (by omega)
    have A1 := eadd_small a b c d (a + c) (b + d) rfl rfl (by omega) (by omega) (by omega) (by omega) (by omega) (by omega) (by omega) (by omega)
    have S3 := esteps_small (a + c) (b + d) (by omega) (by omega) (by omega) (by omega)
    have S4 := esteps_small (-a) (-b) (by omega) (by omega) (by omega) (by omega)
    rw [stp_neg] at S4
    have g0 := stp_ge a b
    have gz := fun h h' => stp_nil (a := a) (b := b) h h'
    have g1 := stp_box (a := a) (b := b) (B := 1099511627776) (by omega) (by omega) (by omega) (by omega) (by omega)
    have g2 := stp_box (a := c) (b := d) (B := 1099511627776) (by omega) (by omega) (by omega) (by omega) (by omega)
    have g3 := stp_add a b c d
    have g4 := (stp_ge (a + c) (b + d)).1
    generalize stp a b = n at S1 S4 g0 gz g1 g3
    generalize stp c d = m at S2 g2 g3
    generalize stp (a + c) (b + d) = t at S3 g3 g4
    replace S1 : Hid _ := S1
    replace S2 : Hid _ := S2
    replace A1 : Hid _ := A1
    replace S3 : Hid _ := S3
    replace S4 : Hid _ := S4
    obtain ⟨n1, n2⟩ := g1
    obtain ⟨m1, m2⟩ := g2
    have hz : ((n == 0) = true ∧ (a == 0) = true ∧ (b == 0) = true) ∨ ((n == 0) = false ∧ (a == 0) = false) ∨ ((n == 0) = false ∧ (a == 0) = true ∧ (b == 0) = false) := by
      simp only [beq_iff_eq, beq_eq_false_iff_ne]
      by_cases h : a = 0
      · by_cases h' : b = 0
        · exact Or.inl ⟨gz h h', h, h'⟩
        · exact Or.inr (Or.inr ⟨by omega, h, h'⟩)
      · exact Or.inr (Or.inl ⟨by omega, h⟩)
    clear g0 gz
    go_wp2_with fail
    refine (S1.out _).mono ?_
    rintro e w1 ⟨rfl, d1⟩
    have c1 : Below wc.heap.size wc w1 := Below.trans (by go_grown) (d1.mono (by simp; try omega))
    replace p0 := keepCell c1 p0
    replace qp0 := World.block_lt_of_cell? _ _ p0
    replace p1 := keepCell c1 p1
    replace p2 := keepCell c1 p2
    replace qp2 := World.block_lt_of_cell? _ _ p2
    replace p3 := keepCell c1 p3
    replace hB := belowT hB c1
    clear c1 d1
    go_wp2_with fail
    refine (S2.out _).mono ?_
    rintro e w2 ⟨rfl, d2⟩
    have c2 : Below w1.heap.size w1 w2 := Below.trans (by go_grown) (d2.mono (by simp; try omega))
    replace p0 := keepCell c2 p0
    replace qp0 := World.block_lt_of_cell? _ _ p0
    replace p1 := keepCell c2 p1
    replace p2 := keepCell c2 p2
    replace qp2 := World.block_lt_of_cell? _ _ p2
    replace p3 := keepCell c2 p3
    replace hB := belowT hB c2
    clear c2 d2
    go_wp2_with fail
    refine (A1.out _).mono ?_
    rintro e w3 ⟨rfl, d3⟩
    have c3 : Below w2.heap.size w2 w3 := Below.trans (by go_grown) (d3.mono (by simp; try omega))
    replace p0 := keepCell c3 p0
    replace qp0 := World.block_lt_of_cell? _ _ p0
    replace p1 := keepCell c3 p1
    replace p2 := keepCell c3 p2
    replace qp2 := World.block_lt_of_cell? _ _ p2
    replace p3 := keepCell c3 p3
    replace hB := belowT hB c3
    clear c3 d3
    go_wp2_with fail
    refine (S3.out _).mono ?_
    rintro e w4 ⟨rfl, d4⟩
    have c4 : Below w3.heap.size w3 w4 := Below.trans (by go_grown) (d4.mono (by simp; try omega))
    replace p0 := keepCell c4 p0
    replace qp0 := World.block_lt_of_cell? _ _ p0
    replace p1 := keepCell c4 p1
    replace p2 := keepCell c4 p2
    replace qp2 := World.block_lt_of_cell? _ _ p2
    replace p3 := keepCell c4 p3
    have s0 : w4.cell? ⟨w3.heap.size, 0, none⟩ = some (.int .i64 (a + c)) := keepCell d4 (by go_simp)
    have qs0 := World.block_lt_of_cell? _ _ s0
    have s1 : w4.cell? ⟨w3.heap.size, 1, none⟩ = some (.int .i64 (b + d)) := keepCell d4 (by go_simp)
    replace hB := belowT hB c4
    clear c4 d4
    go_wp2_with fail
    refine (S4.out _).mono ?_
    rintro e w5 ⟨rfl, d5⟩
    have c5 : Below w4.heap.size w4 w5 := Below.trans (by go_grown) (d5.mono (by simp; try omega))
    replace p0 := keepCell c5 p0
    replace qp0 := World.block_lt_of_cell? _ _ p0
    replace p1 := keepCell c5 p1
    replace p2 := keepCell c5 p2
    replace qp2 := World.block_lt_of_cell? _ _ p2
    replace p3 := keepCell c5 p3
    replace s0 := keepCell c5 s0
    replace qs0 := World.block_lt_of_cell? _ _ s0
    replace s1 := keepCell c5 s1
    replace hB := belowT hB c5
    clear c5 d5
    go_wp2_with fail
    refine (UN.out _ ?_).mono ?_
    · exact hU.below (belowT hB (by go_grown))
    rintro e w6 ⟨rfl, d6⟩
    have c6 : Below w5.heap.size w5 w6 := Below.trans (by go_grown) (d6.mono (by simp; try omega))
    replace p0 := keepCell c6 p0
    replace qp0 := World.block_lt_of_cell? _ _ p0
    replace p1 := keepCell c6 p1
    replace p2 := keepCell c6 p2
    replace qp2 := World.block_lt_of_cell? _ _ p2
    replace p3 := keepCell c6 p3
    replace s0 := keepCell c6 s0
    replace qs0 := World.block_lt_of_cell? _ _ s0
    replace s1 := keepCell c6 s1
    replace hB := belowT hB c6
    clear c6 d6
    go_wp2_with fail
    refine (US.out _).mono ?_
    rintro e w7 ⟨rfl, d7⟩
    have c7 : Below w6.heap.size w6 w7 := Below.trans (by go_grown) (d7.mono (by simp; try omega))
    replace p0 := keepCell c7 p0
    replace qp0 := World.block_lt_of_cell? _ _ p0
    replace p1 := keepCell c7 p1
    replace p2 := keepCell c7 p2
    replace qp2 := World.block_lt_of_cell? _ _ p2
    replace p3 := keepCell c7 p3
    replace s0 := keepCell c7 s0
    replace qs0 := World.block_lt_of_cell? _ _ s0
    replace s1 := keepCell c7 s1
    replace hB := belowT hB c7
    clear c7 d7
    rcases hz with ⟨e1, e2, e3⟩ | ⟨e1, e2⟩ | ⟨e1, e2, e3⟩
    all_goals
      go_wp2_with fail
      refine (awake _ (hU.below hB)).mono ?_
      rintro e w8 ⟨rfl, c8⟩
      replace hB := belowT hB c8
      clear c8
      go_wp2
      go_ret
      exact ⟨rfl, hB⟩

theorem unit_step (j : Int) (h0 : 0 ≤ j) (h1 : j < 6) : stp (unitA j) (unitB j) = 1 := by
  have hc : j = 0 ∨ j = 1 ∨ j = 2 ∨ j = 3 ∨ j = 4 ∨ j = 5 := by omega
  rcases hc with rfl | rfl | rfl | rfl | rfl | rfl <;> decide
theorem unit_bnd (j : Int) (h0 : 0 ≤ j) (h1 : j < 6) : -1 ≤ unitA j ∧ unitA j ≤ 1 ∧ -1 ≤ unitB j ∧ unitB j ≤ 1 := by
  have hc : j = 0 ∨ j = 1 ∨ j = 2 ∨ j = 3 ∨ j = 4 ∨ j = 5 := by omega
  rcases hc with rfl | rfl | rfl | rfl | rfl | rfl <;> decide
theorem eisenSteps_walk (a b c d k : Int) (_a1 : -9223372036854775808 ≤ a) (_a2 : a ≤ 9223372036854775807) (_b1 : -9223372036854775808 ≤ b) (_b2 : b ≤ 9223372036854775807) (_c1 : -9223372036854775808 ≤ c) (_c2 : c ≤ 9223372036854775807) (_d1 : -9223372036854775808 ≤ d) (_d2 : d ≤ 9223372036854775807) (k1 : -9223372036854775808 ≤ k) (k2 : k ≤ 9223372036854775807) (w : World) (hU : Uni w) :
    Calls Tryd.prog 6 #[.agg #[.int .i64 a, .int .i64 b], .agg #[.int .i64 c, .int .i64 d], .int .i64 k] w fun e w' => e = .returned (.bool true) ∧ Below w.heap.size w w' := by
  have pa := par_box a
  have pb := par_box b
  have pc := par_box c
  have pd := par_box d
  have hu := unit_bnd (k % 6) (by omega) (by omega)
  have US := esteps_small (unitA (k % 6)) (unitB (k % 6)) (by omega) (by omega) (by omega) (by omega)
  rw [unit_step (k % 6) (by omega) (by omega)] at US
  exact steps_core a b c d k _ _ _ _ _ _ rfl rfl rfl rfl pa.1 pa.2 pb.1 pb.2 pc.1 pc.2 pd.1 pd.2 (fun w hU => eunit_any k k1 k2 w hU) US w hU
end Go.Proofs.YtpncnpmikhbmnabDoor
