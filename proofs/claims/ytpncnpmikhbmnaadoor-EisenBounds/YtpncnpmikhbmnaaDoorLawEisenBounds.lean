/-
  The law EisenBounds answers true for every two numbers, in whatever memory where the package's table of Units holds what its text lays: divisors and numerators are taken up to their bounds and no further; Beta ends at 20, whose Norm is 7 to the 20.
-/
import Derived.Test.YtpncnpmikhbmnaaDoorAwakeE
import Derived.Test.YtpncnpmikhbmnaaDoorEBeta
import Derived.Test.YtpncnpmikhbmnaaDoorENear
import Derived.Test.YtpncnpmikhbmnaaDoorRefPow
import Derived.Test.YtpncnpmikhbmnaaDoorMask
namespace Go.Proofs.YtpncnpmikhbmnaaDoor
open Go.RowKit

set_option maxHeartbeats 400000 in
theorem seven20 (w : World) : Calls Tryd.prog 18 #[.int .i64 20] w fun e w' => e = .returned (.int .i64 79792266297612001) ∧ Below w.heap.size w w' := by
  have h := refpow_any 7 20 (by omega) (by omega) (by omega)
  replace h : Hid _ := h
  go_enter Tryd.func18, Tryd.ntmps18
  go_wp2_with fail
  refine (h.out _).mono ?_
  rintro e w1 ⟨rfl, d1⟩
  have c1 : Below w.heap.size w w1 := Below.trans (by go_grown) (d1.mono (by simp; try omega))
  have hB := c1
  clear c1 d1
  go_wp2
  go_ret
  exact ⟨rfl, hB⟩

/-- Whether Round takes a numerator and a divisor. -/
def inR (u v d : Int) : Bool := decide (1 ≤ d ∧ d ≤ 1125899906842624 ∧ -1152921504606846976 ≤ u ∧ u ≤ 1152921504606846976 ∧ -1152921504606846976 ≤ v ∧ v ≤ 1152921504606846976)
theorem eround_bool (u v d : Int) (r : Bool) (hr : inR u v d = r) (w : World) :
    Calls Tryd.prog 15 #[.agg #[.int .i64 u, .int .i64 v], .int .i64 d] w fun e w' => (∃ x y : Int, e = .returned (.tuple #[.agg #[.int .i64 x, .int .i64 y], .bool r])) ∧ Below w.heap.size w w' := by
  by_cases h : 1 ≤ d ∧ d ≤ 1125899906842624 ∧ -1152921504606846976 ≤ u ∧ u ≤ 1152921504606846976 ∧ -1152921504606846976 ≤ v ∧ v ≤ 1152921504606846976
  · obtain rfl : r = true := hr.symm.trans (decide_eq_true h)
    exact (eround_see u v d h.2.2.1 h.2.2.2.1 h.2.2.2.2.1 h.2.2.2.2.2 h.1 h.2.1 w).mono fun e w' ⟨⟨x, y, he, _⟩, hb⟩ => ⟨⟨x, y, he⟩, hb⟩
  · obtain rfl : r = false := hr.symm.trans (decide_eq_false h)
    exact (eround_no u v d h w).mono fun e w' ⟨he, hb⟩ => ⟨⟨0, 0, he⟩, hb⟩

theorem beta20 (w : World) : Calls Tryd.prog 17 #[.int .i64 20] w fun e w' => e = .returned (.tuple #[.agg #[.int .i64 (bet 20).1, .int .i64 (bet 20).2], .bool true]) ∧ Below w.heap.size w w' := ebeta_yes 20 (by omega) w
theorem beta21 (w : World) : Calls Tryd.prog 17 #[.int .i64 21] w fun e w' => e = .returned (.tuple #[.agg #[.int .i64 0, .int .i64 0], .bool false]) ∧ Below w.heap.size w w' := ebeta_above 21 (by omega) (by omega) w
theorem refbeta21 (w : World) : Calls Tryd.prog 16 #[.int .i64 21] w fun e w' => e = .returned (.tuple #[.agg #[.int .i64 0, .int .i64 0], .bool false]) ∧ Below w.heap.size w w' := refbeta_above 21 (by omega) (by omega) w
theorem norm20 (w : World) : Calls Tryd.prog 12 #[.agg #[.int .i64 (bet 20).1, .int .i64 (bet 20).2]] w fun e w' => e = .returned (.tuple #[.int .i64 79792266297612001, .bool true]) ∧ Below w.heap.size w w' :=
  enorm_any _ _ (by decide +kernel) (by decide +kernel) (by decide +kernel) (by decide +kernel) w

set_option maxHeartbeats 2000000 in
set_option maxRecDepth 20000 in
theorem bounds_core (k0 i0 m n k i : Int) (r s t : Bool) (hm : bits .and .i64 k0 7 = m) (hn : bits .and .i64 i0 7 = n) (hk : m - 3 = k) (hi : n - 3 = i) (m1 : 0 ≤ m) (m2 : m ≤ 7) (n1 : 0 ≤ n) (n2 : n ≤ 7)
    (hr : decide (i ≤ 0) = r) (hs : decide (k ≤ 0) = s) (ht : decide (1 ≤ k) = t)
    (R1 : ∀ w, Calls Tryd.prog 15 #[.agg #[.int .i64 (1152921504606846976 + i), .int .i64 0], .int .i64 5] w fun e w' => (∃ x y : Int, e = .returned (.tuple #[.agg #[.int .i64 x, .int .i64 y], .bool r])) ∧ Below w.heap.size w w')
    (R2 : ∀ w, Calls Tryd.prog 15 #[.agg #[.int .i64 0, .int .i64 (-1152921504606846976 - i)], .int .i64 5] w fun e w' => (∃ x y : Int, e = .returned (.tuple #[.agg #[.int .i64 x, .int .i64 y], .bool r])) ∧ Below w.heap.size w w')
    (R3 : ∀ w, Calls Tryd.prog 15 #[.agg #[.int .i64 3, .int .i64 0], .int .i64 (1125899906842624 + k)] w fun e w' => (∃ x y : Int, e = .returned (.tuple #[.agg #[.int .i64 x, .int .i64 y], .bool s])) ∧ Below w.heap.size w w')
    (R4 : ∀ w, Calls Tryd.prog 15 #[.agg #[.int .i64 3, .int .i64 0], .int .i64 k] w fun e w' => (∃ x y : Int, e = .returned (.tuple #[.agg #[.int .i64 x, .int .i64 y], .bool t])) ∧ Below w.heap.size w w')
    (w : World) (hU : Uni w) :
    Calls Tryd.prog 5 #[.int .i64 k0, .int .i64 i0] w fun e w' => e = .returned (.bool true) ∧ Below w.heap.size w w' := by
  have k1 : -3 ≤ k := by omega
  have k2 : k ≤ 4 := by omega
  have i1 : -3 ≤ i := by omega
  have i2 : i ≤ 4 := by omega
  replace R1 : Hid _ := R1
  replace R2 : Hid _ := R2
  replace R3 : Hid _ := R3
  replace R4 : Hid _ := R4
  have B20 := beta20
  have N20 := norm20
  replace B20 : Hid _ := B20
  replace N20 : Hid _ := N20
  generalize (bet 20).1 = X at B20 N20
  generalize (bet 20).2 = Y at B20 N20
  go_enter Tryd.func5, Tryd.ntmps5
  go_wp2_with fail
  refine (R1.out _).mono ?_
  rintro e w1 ⟨⟨xa, ya, rfl⟩, d1⟩
  have c1 : Below w.heap.size w w1 := Below.trans (by go_grown) (d1.mono (by simp; try omega))
  have hB := c1
  clear c1 d1
  go_wp2_with fail
  refine (R2.out _).mono ?_
  rintro e w2 ⟨⟨xb, yb, rfl⟩, d2⟩
  have c2 : Below w1.heap.size w1 w2 := Below.trans (by go_grown) (d2.mono (by simp; try omega))
  replace hB := belowT hB c2
  clear c2 d2
  go_wp2_with fail
  refine (R3.out _).mono ?_
  rintro e w3 ⟨⟨xc, yc, rfl⟩, d3⟩
  have c3 : Below w2.heap.size w2 w3 := Below.trans (by go_grown) (d3.mono (by simp; try omega))
  replace hB := belowT hB c3
  clear c3 d3
  go_wp2_with fail
  refine (R4.out _).mono ?_
  rintro e w4 ⟨⟨xd, yd, rfl⟩, d4⟩
  have c4 : Below w3.heap.size w3 w4 := Below.trans (by go_grown) (d4.mono (by simp; try omega))
  replace hB := belowT hB c4
  clear c4 d4
  go_wp2_with fail
  refine (refbeta21 _).mono ?_
  rintro e w5 ⟨rfl, d5⟩
  have c5 : Below w4.heap.size w4 w5 := Below.trans (by go_grown) (d5.mono (by simp; try omega))
  replace hB := belowT hB c5
  clear c5 d5
  go_wp2_with fail
  refine (beta21 _).mono ?_
  rintro e w6 ⟨rfl, d6⟩
  have c6 : Below w5.heap.size w5 w6 := Below.trans (by go_grown) (d6.mono (by simp; try omega))
  replace hB := belowT hB c6
  clear c6 d6
  go_wp2_with fail
  refine (B20.out _).mono ?_
  rintro e w7 ⟨rfl, d7⟩
  have c7 : Below w6.heap.size w6 w7 := Below.trans (by go_grown) (d7.mono (by simp; try omega))
  replace hB := belowT hB c7
  clear c7 d7
  go_wp2_with fail
  refine (N20.out _).mono ?_
  rintro e w8 ⟨rfl, d8⟩
  have c8 : Below w7.heap.size w7 w8 := Below.trans (by go_grown) (d8.mono (by simp; try omega))
  have z0 : w8.cell? ⟨w7.heap.size, 0, none⟩ = some (.int .i64 X) := keepCell d8 (by go_simp)
  have qz0 := World.block_lt_of_cell? _ _ z0
  have z1 : w8.cell? ⟨w7.heap.size, 1, none⟩ = some (.int .i64 Y) := keepCell d8 (by go_simp)
  replace hB := belowT hB c8
  clear c8 d8
  go_wp2_with fail
  refine (seven20 _).mono ?_
  rintro e w9 ⟨rfl, d9⟩
  have c9 : Below w8.heap.size w8 w9 := Below.trans (by go_grown) (d9.mono (by simp; try omega))
  replace z0 := keepCell c9 z0
  replace qz0 := World.block_lt_of_cell? _ _ z0
  replace z1 := keepCell c9 z1
  replace hB := belowT hB c9
  clear c9 d9
  go_wp2_with fail
  refine (awake _ ?_).mono ?_
  · exact hU.below (belowT hB (by go_grown))
  rintro e w10 ⟨rfl, d10⟩
  have c10 : Below w9.heap.size w9 w10 := Below.trans (by go_grown) (d10.mono (by simp; try omega))
  replace z0 := keepCell c10 z0
  replace qz0 := World.block_lt_of_cell? _ _ z0
  replace z1 := keepCell c10 z1
  replace hB := belowT hB c10
  clear c10 d10
  go_wp2
  go_ret
  exact ⟨rfl, hB⟩

theorem eisenBounds_walk (k0 i0 : Int) (w : World) (hU : Uni w) :
    Calls Tryd.prog 5 #[.int .i64 k0, .int .i64 i0] w fun e w' => e = .returned (.bool true) ∧ Below w.heap.size w w' := by
  have bm : 0 ≤ bits .and .i64 k0 7 ∧ bits .and .i64 k0 7 ≤ 7 := by rw [mask3]; omega
  have bn : 0 ≤ bits .and .i64 i0 7 ∧ bits .and .i64 i0 7 ≤ 7 := by rw [mask3]; omega
  refine bounds_core k0 i0 _ _ _ _ _ _ _ rfl rfl rfl rfl bm.1 bm.2 bn.1 bn.2 rfl rfl rfl (eround_bool _ _ _ _ ?_) (eround_bool _ _ _ _ ?_) (eround_bool _ _ _ _ ?_) (eround_bool _ _ _ _ ?_) w hU
  all_goals
    unfold inR
    congr 1
    apply propext
    omega
end Go.Proofs.YtpncnpmikhbmnaaDoor
