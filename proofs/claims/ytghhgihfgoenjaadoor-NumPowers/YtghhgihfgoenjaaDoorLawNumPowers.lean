/-
  The law NumPowers answers true for any number and any two exponents of 64 bits, in whatever memory where the library's table of powers of ten holds what its initialiser lays: the walk.
-/
import Derived.Test.YtghhgihfgoenjaaDoorAwake
import Derived.Test.YtghhgihfgoenjaaDoorNumPow
namespace Go.Proofs.YtghhgihfgoenjaaDoor
open Go.RowKit Go.Shelf

theorem pow_yes (a : Int) (K : Nat) (a1 : -9223372036854775808 ≤ a) (a2 : a ≤ 9223372036854775807) (hK : K ≤ 9223372036854775807) (h : In64 (a ^ K)) (w : World) :
    Calls Tryd.prog 14 #[.int .i64 a, .int .i64 (K : Int)] w fun e w' => e = .returned (.tuple #[.int .i64 (a ^ K), .bool true]) ∧ Below w.heap.size w w' := by
  have hf := fits_mk h
  have := pow_any a K a1 a2 hK w
  rw [kept_mk hf, hf] at this
  exact this
theorem pow_no (a : Int) (K : Nat) (a1 : -9223372036854775808 ≤ a) (a2 : a ≤ 9223372036854775807) (hK : K ≤ 9223372036854775807) (h : ¬ In64 (a ^ K)) (w : World) :
    Calls Tryd.prog 14 #[.int .i64 a, .int .i64 (K : Int)] w fun e w' => e = .returned (.tuple #[.int .i64 0, .bool false]) ∧ Below w.heap.size w w' := by
  have hf := fits_no h
  have := pow_any a K a1 a2 hK w
  rw [kept_no hf, hf] at this
  exact this
theorem pow_sum (a : Int) (I K : Nat) (a1 : -9223372036854775808 ≤ a) (a2 : a ≤ 9223372036854775807) (hI : I ≤ 31) (hK : K ≤ 31) (w : World) :
    Calls Tryd.prog 14 #[.int .i64 a, .int .i64 ((I : Int) + (K : Int))] w fun e w' => e = .returned (.tuple #[.int .i64 (kept (a ^ I * a ^ K)), .bool (fits (a ^ I * a ^ K))]) ∧ Below w.heap.size w w' := by
  have := pow_any a (I + K) a1 a2 (by omega) w
  rw [Int.pow_add, Int.natCast_add] at this
  exact this
theorem pow_sum_no (a : Int) (I K : Nat) (a1 : -9223372036854775808 ≤ a) (a2 : a ≤ 9223372036854775807) (hI : I ≤ 31) (hK : K ≤ 31) (h : ¬ In64 (a ^ I) ∨ ¬ In64 (a ^ K)) (w : World) :
    Calls Tryd.prog 14 #[.int .i64 a, .int .i64 ((I : Int) + (K : Int))] w fun e w' => e = .returned (.tuple #[.int .i64 0, .bool false]) ∧ Below w.heap.size w w' := by
  have hn : ¬ In64 (a ^ (I + K)) := by
    rcases h with h | h
    · exact over_mono (by omega) h
    · exact over_mono (by omega) h
  have := pow_no a (I + K) a1 a2 (by omega) hn w
  rw [Int.natCast_add] at this
  exact this
theorem minus_odd (I : Nat) : (-1 : Int) ^ (2 * I + 1) = -1 := by
  induction I with
  | zero => rfl
  | succ I ih => rw [show 2 * (I + 1) + 1 = (2 * I + 1) + 1 + 1 by omega, Int.pow_succ, Int.pow_succ, ih]; decide
theorem pow_one (w : World) :
    Calls Tryd.prog 14 #[.int .i64 1, .int .i64 1048576] w fun e w' => e = .returned (.tuple #[.int .i64 1, .bool true]) ∧ Below w.heap.size w w' := by
  have h : (1 : Int) ^ 1048576 = 1 := Int.one_pow
  have := pow_yes 1 1048576 (by omega) (by omega) (by omega) (by unfold In64; rw [h]; omega) w
  rw [h] at this
  exact this
theorem pow_minus (I : Nat) (hI : I ≤ 31) (w : World) :
    Calls Tryd.prog 14 #[.int .i64 (-1), .int .i64 (2 * (I : Int) + 1)] w fun e w' => e = .returned (.tuple #[.int .i64 (-1), .bool true]) ∧ Below w.heap.size w w' := by
  have := pow_yes (-1) (2 * I + 1) (by omega) (by omega) (by omega) (by unfold In64; rw [minus_odd]; omega) w
  rw [minus_odd, Int.natCast_add, Int.natCast_mul] at this
  exact this
theorem pow_nought (I : Nat) (hI : I ≤ 31) (w : World) :
    Calls Tryd.prog 14 #[.int .i64 0, .int .i64 ((I : Int) + 1)] w fun e w' => e = .returned (.tuple #[.int .i64 0, .bool true]) ∧ Below w.heap.size w w' := by
  have h : (0 : Int) ^ (I + 1) = 0 := by rw [Int.pow_succ, Int.mul_zero]
  have := pow_yes 0 (I + 1) (by omega) (by omega) (by omega) (by unfold In64; rw [h]; omega) w
  rw [h, Int.natCast_add] at this
  exact this

set_option maxRecDepth 100000 in
set_option maxHeartbeats 1000000 in
theorem powers_both (a i k : Int) (I K : Nat) (hi : bits .and .i64 i 31 = (I : Int)) (hk : bits .and .i64 k 31 = (K : Int)) (hI : I ≤ 31) (hK : K ≤ 31) (x y : Int) (hx : a ^ I = x) (hy : a ^ K = y) (a1 : -9223372036854775808 ≤ a) (a2 : a ≤ 9223372036854775807)
    (x1 : In64 x) (y1 : In64 y) (w : World) (htab : Tab w) :
    Calls Tryd.prog 4 #[.int .i64 a, .int .i64 i, .int .i64 k] w fun e w' => e = .returned (.bool true) ∧ Below w.heap.size w w' := by
  have A : ∀ w, Calls Tryd.prog 14 #[.int .i64 a, .int .i64 (I : Int)] w fun e w' => e = .returned (.tuple #[.int .i64 x, .bool true]) ∧ Below w.heap.size w w' := by
    rw [← hx]; exact pow_yes a I a1 a2 (by omega) (by rw [hx]; exact x1)
  have B : ∀ w, Calls Tryd.prog 14 #[.int .i64 a, .int .i64 (K : Int)] w fun e w' => e = .returned (.tuple #[.int .i64 y, .bool true]) ∧ Below w.heap.size w w' := by
    rw [← hy]; exact pow_yes a K a1 a2 (by omega) (by rw [hy]; exact y1)
  have D : ∀ w, Calls Tryd.prog 14 #[.int .i64 a, .int .i64 ((I : Int) + (K : Int))] w fun e w' => e = .returned (.tuple #[.int .i64 (kept (x * y)), .bool (fits (x * y))]) ∧ Below w.heap.size w w' := by
    rw [← hx, ← hy]; exact pow_sum a I K a1 a2 hI hK
  replace A : Hid _ := A
  replace B : Hid _ := B
  replace D : Hid _ := D
  clear hx hy
  go_enter Tryd.func4, Tryd.ntmps4
  go_wp2_with fail
  refine (A.out _).mono ?_
  rintro e w1 ⟨rfl, c1⟩
  go_wp2_with fail
  refine (B.out _).mono ?_
  rintro e w2 ⟨rfl, c2⟩
  replace c2 := belowT c1 c2
  clear c1
  go_wp2_with fail
  refine (D.out _).mono ?_
  rintro e w3 ⟨rfl, c3⟩
  replace c3 := belowT c2 c3
  clear c2
  go_wp2_with fail
  refine (mul_any x y x1.1 x1.2 y1.1 y1.2 _).mono ?_
  rintro e w4 ⟨rfl, c4⟩
  replace c4 := belowT c3 c4
  clear c3
  go_wp2_with fail
  refine (pow_one _).mono ?_
  rintro e w5 ⟨rfl, c5⟩
  replace c5 := belowT c4 c5
  clear c4
  go_wp2_with fail
  refine (pow_minus I hI _).mono ?_
  rintro e w6 ⟨rfl, c6⟩
  replace c6 := belowT c5 c6
  clear c5
  go_wp2_with fail
  refine (pow_nought I hI _).mono ?_
  rintro e w7 ⟨rfl, c7⟩
  replace c7 := belowT c6 c7
  clear c6
  go_wp2_with fail
  refine (pow_below a (-1) (by omega) (by omega) _).mono ?_
  rintro e w8 ⟨rfl, c8⟩
  replace c8 := belowT c7 c8
  clear c7
  go_wp2_with fail
  refine (awake _ (htab.below c8)).mono ?_
  rintro e w9 ⟨rfl, c9⟩
  replace c9 := belowT c8 c9
  clear c8
  go_wp2
  go_ret
  exact ⟨rfl, c9⟩

set_option maxRecDepth 100000 in
set_option maxHeartbeats 1000000 in
theorem powers_first (a i k : Int) (I K : Nat) (hi : bits .and .i64 i 31 = (I : Int)) (hk : bits .and .i64 k 31 = (K : Int)) (hI : I ≤ 31) (hK : K ≤ 31) (a1 : -9223372036854775808 ≤ a) (a2 : a ≤ 9223372036854775807)
    (x1 : ¬ In64 (a ^ I)) (w : World) (htab : Tab w) :
    Calls Tryd.prog 4 #[.int .i64 a, .int .i64 i, .int .i64 k] w fun e w' => e = .returned (.bool true) ∧ Below w.heap.size w w' := by
  go_enter Tryd.func4, Tryd.ntmps4
  go_wp2_with fail
  refine (pow_no a I a1 a2 (by omega) x1 _).mono ?_
  rintro e w1 ⟨rfl, c1⟩
  go_wp2_with fail
  refine (pow_any a K a1 a2 (by omega) _).mono ?_
  rintro e w2 ⟨rfl, c2⟩
  replace c2 := belowT c1 c2
  clear c1
  go_wp2_with fail
  refine (pow_sum_no a I K a1 a2 hI hK (Or.inl x1) _).mono ?_
  rintro e w3 ⟨rfl, c3⟩
  replace c3 := belowT c2 c3
  clear c2
  go_wp2_with fail
  refine (pow_one _).mono ?_
  rintro e w4 ⟨rfl, c4⟩
  replace c4 := belowT c3 c4
  clear c3
  go_wp2_with fail
  refine (pow_minus I hI _).mono ?_
  rintro e w5 ⟨rfl, c5⟩
  replace c5 := belowT c4 c5
  clear c4
  go_wp2_with fail
  refine (pow_nought I hI _).mono ?_
  rintro e w6 ⟨rfl, c6⟩
  replace c6 := belowT c5 c6
  clear c5
  go_wp2_with fail
  refine (pow_below a (-1) (by omega) (by omega) _).mono ?_
  rintro e w7 ⟨rfl, c7⟩
  replace c7 := belowT c6 c7
  clear c6
  go_wp2_with fail
  refine (awake _ (htab.below c7)).mono ?_
  rintro e w8 ⟨rfl, c8⟩
  replace c8 := belowT c7 c8
  clear c7
  go_wp2
  go_ret
  exact ⟨rfl, c8⟩

set_option maxRecDepth 100000 in
set_option maxHeartbeats 1000000 in
theorem powers_other (a i k : Int) (I K : Nat) (hi : bits .and .i64 i 31 = (I : Int)) (hk : bits .and .i64 k 31 = (K : Int)) (hI : I ≤ 31) (hK : K ≤ 31) (a1 : -9223372036854775808 ≤ a) (a2 : a ≤ 9223372036854775807)
    (x1 : In64 (a ^ I)) (y1 : ¬ In64 (a ^ K)) (w : World) (htab : Tab w) :
    Calls Tryd.prog 4 #[.int .i64 a, .int .i64 i, .int .i64 k] w fun e w' => e = .returned (.bool true) ∧ Below w.heap.size w w' := by
  go_enter Tryd.func4, Tryd.ntmps4
  go_wp2_with fail
  refine (pow_yes a I a1 a2 (by omega) x1 _).mono ?_
  rintro e w1 ⟨rfl, c1⟩
  go_wp2_with fail
  refine (pow_no a K a1 a2 (by omega) y1 _).mono ?_
  rintro e w2 ⟨rfl, c2⟩
  replace c2 := belowT c1 c2
  clear c1
  go_wp2_with fail
  refine (pow_sum_no a I K a1 a2 hI hK (Or.inr y1) _).mono ?_
  rintro e w3 ⟨rfl, c3⟩
  replace c3 := belowT c2 c3
  clear c2
  go_wp2_with fail
  refine (pow_one _).mono ?_
  rintro e w4 ⟨rfl, c4⟩
  replace c4 := belowT c3 c4
  clear c3
  go_wp2_with fail
  refine (pow_minus I hI _).mono ?_
  rintro e w5 ⟨rfl, c5⟩
  replace c5 := belowT c4 c5
  clear c4
  go_wp2_with fail
  refine (pow_nought I hI _).mono ?_
  rintro e w6 ⟨rfl, c6⟩
  replace c6 := belowT c5 c6
  clear c5
  go_wp2_with fail
  refine (pow_below a (-1) (by omega) (by omega) _).mono ?_
  rintro e w7 ⟨rfl, c7⟩
  replace c7 := belowT c6 c7
  clear c6
  go_wp2_with fail
  refine (awake _ (htab.below c7)).mono ?_
  rintro e w8 ⟨rfl, c8⟩
  replace c8 := belowT c7 c8
  clear c7
  go_wp2
  go_ret
  exact ⟨rfl, c8⟩

theorem powers_law (a : Int) (a1 : -9223372036854775808 ≤ a) (a2 : a ≤ 9223372036854775807) (i : Int) (_i1 : -9223372036854775808 ≤ i) (_i2 : i ≤ 9223372036854775807) (k : Int) (_k1 : -9223372036854775808 ≤ k) (_k2 : k ≤ 9223372036854775807) (w : World) (htab : Tab w) :
    Calls Tryd.prog 4 #[.int .i64 a, .int .i64 i, .int .i64 k] w fun e w' => e = .returned (.bool true) ∧ Below w.heap.size w w' := by
  have hi : bits .and .i64 i 31 = ((i % 32).toNat : Int) := by rw [mask5]; omega
  have hk : bits .and .i64 k 31 = ((k % 32).toNat : Int) := by rw [mask5]; omega
  by_cases h1 : In64 (a ^ (i % 32).toNat)
  · by_cases h2 : In64 (a ^ (k % 32).toNat)
    · exact powers_both a i k _ _ hi hk (by omega) (by omega) _ _ rfl rfl a1 a2 h1 h2 w htab
    · exact powers_other a i k _ _ hi hk (by omega) (by omega) a1 a2 h1 h2 w htab
  · exact powers_first a i k _ _ hi hk (by omega) (by omega) a1 a2 h1 w htab
end Go.Proofs.YtghhgihfgoenjaaDoor
