/-
  What Shl and Floor of package num tell, for any numbers of 64 bits, in whatever memory.
-/
import Derived.Test.YtghhgihfgoenjaaDoorNumPairs
namespace Go.Proofs.YtghhgihfgoenjaaDoor
open Go.RowKit

set_option maxHeartbeats 400000 in
theorem shl_below (a k : Int) (hk : k < 0) (w : World) :
    Calls Tryd.prog 22 #[.int .i64 a, .int .i64 k] w fun e w' => e = .returned (.tuple #[.int .i64 0, .bool false]) ∧ Below w.heap.size w w' := by
  have hmf := hmf
  go_enter Tryd.func22, Tryd.ntmps22
  go_wp2
  go_ret2
  exact ⟨rfl, by go_grown⟩

set_option maxHeartbeats 400000 in
theorem shl_yes (a k p n q : Int) (hk : ¬ k < 0) (hp : (2 : Int) ^ min k.toNat 64 = p) (hn : IntKind.i64.wrap (a * p) = n) (_hn' : wrap64 (a * p) = n) (hq : n / p = q) (hy : (q == a) = true) (w : World) :
    Calls Tryd.prog 22 #[.int .i64 a, .int .i64 k] w fun e w' => e = .returned (.tuple #[.int .i64 n, .bool true]) ∧ Below w.heap.size w w' := by
  have hmf := hmf
  go_enter Tryd.func22, Tryd.ntmps22
  go_wp2
  go_quiet (fail)
  go_wp2
  go_ret2
  exact ⟨rfl, belowN (by go_grown) _⟩

set_option maxHeartbeats 400000 in
theorem shl_no (a k p n q : Int) (hk : ¬ k < 0) (hp : (2 : Int) ^ min k.toNat 64 = p) (hn : IntKind.i64.wrap (a * p) = n) (_hn' : wrap64 (a * p) = n) (hq : n / p = q) (hy : (q == a) = false) (w : World) :
    Calls Tryd.prog 22 #[.int .i64 a, .int .i64 k] w fun e w' => e = .returned (.tuple #[.int .i64 0, .bool false]) ∧ Below w.heap.size w w' := by
  have hmf := hmf
  go_enter Tryd.func22, Tryd.ntmps22
  go_wp2
  go_quiet (fail)
  go_wp2
  go_ret2
  exact ⟨rfl, belowN (by go_grown) _⟩

set_option maxHeartbeats 400000 in
theorem floor_no (a b : Int) (hb : b ≤ 0) (w : World) :
    Calls Tryd.prog 20 #[.int .i64 a, .int .i64 b] w fun e w' => e = .returned (.tuple #[.int .i64 0, .int .i64 0, .bool false]) ∧ Below w.heap.size w w' := by
  go_enter Tryd.func20, Tryd.ntmps20
  go_wp2
  go_ret3
  exact ⟨rfl, Below.refl _ _⟩

set_option maxHeartbeats 400000 in
theorem floor_up (a b : Int) (hb : 0 < b) (hz : ¬ b = 0) (h : 0 ≤ a) (h2 : a ≤ 9223372036854775807) (w : World) :
    Calls Tryd.prog 20 #[.int .i64 a, .int .i64 b] w fun e w' => e = .returned (.tuple #[.int .i64 (a / b), .int .i64 (a % b), .bool true]) ∧ Below w.heap.size w w' := by
  have hr : 0 ≤ a % b := Int.emod_nonneg _ hz
  go_enter Tryd.func20, Tryd.ntmps20
  go_wp2
  go_quiet (fail)
  go_wp2
  go_ret3
  exact ⟨rfl, belowN (Below.refl _ _) _⟩

set_option maxHeartbeats 400000 in
theorem floor_even (a b q r : Int) (hb : 0 < b) (hz : ¬ b = 0) (_h : a < 0) (hq : a.tdiv b = q) (hr : a.tmod b = r) (q1 : -9223372036854775808 ≤ q) (q2 : q ≤ 9223372036854775807) (r1 : -9223372036854775808 ≤ r) (r2 : r ≤ 9223372036854775807) (h0 : 0 ≤ r) (w : World) :
    Calls Tryd.prog 20 #[.int .i64 a, .int .i64 b] w fun e w' => e = .returned (.tuple #[.int .i64 q, .int .i64 r, .bool true]) ∧ Below w.heap.size w w' := by
  go_enter Tryd.func20, Tryd.ntmps20
  go_wp2
  go_quiet (fail)
  go_wp2
  go_ret3
  exact ⟨rfl, belowN (Below.refl _ _) _⟩

set_option maxHeartbeats 400000 in
theorem floor_odd (a b q r : Int) (hb : 0 < b) (hz : ¬ b = 0) (_h : a < 0) (hq : a.tdiv b = q) (hr : a.tmod b = r) (q1 : -9223372036854775807 ≤ q) (q2 : q ≤ 9223372036854775807) (r1 : -9223372036854775808 ≤ r) (r2 : r + b ≤ 9223372036854775807) (h0 : r < 0) (w : World) :
    Calls Tryd.prog 20 #[.int .i64 a, .int .i64 b] w fun e w' => e = .returned (.tuple #[.int .i64 (q - 1), .int .i64 (r + b), .bool true]) ∧ Below w.heap.size w w' := by
  go_enter Tryd.func20, Tryd.ntmps20
  go_wp2
  go_quiet (fail)
  go_wp2
  go_ret3
  exact ⟨rfl, belowN (Below.refl _ _) _⟩

/-- FLOOR, whatever is divided by a number above nought. -/
theorem floor_any (a b : Int) (a1 : -9223372036854775808 ≤ a) (a2 : a ≤ 9223372036854775807) (hb : 0 < b) (b2 : b ≤ 9223372036854775807) (w : World) :
    Calls Tryd.prog 20 #[.int .i64 a, .int .i64 b] w fun e w' => e = .returned (.tuple #[.int .i64 (a / b), .int .i64 (a % b), .bool true]) ∧ Below w.heap.size w w' := by
  by_cases h : 0 ≤ a
  · exact floor_up a b hb (by omega) h a2 w
  · have e := Int.mul_tdiv_add_tmod a b
    have q := tdiv_bd (a := b) a1 a2 (by omega)
    have r1 : a.tmod b = -((-a) % b) := by
      have := Int.neg_tmod (-a) b
      rw [Int.neg_neg] at this
      rw [this, Int.tmod_eq_emod_of_nonneg (by omega)]
    have r2 := Int.emod_nonneg (-a) (b := b) (by omega)
    have r3 := Int.emod_lt_of_pos (-a) hb
    by_cases h0 : 0 ≤ a.tmod b
    · have u := (Int.ediv_emod_unique (a := a) (r := a.tmod b) (q := a.tdiv b) hb).2 ⟨by omega, h0, by omega⟩
      rw [u.1, u.2]
      exact floor_even a b _ _ hb (by omega) (by omega) rfl rfl q.1 q.2 (by omega) (by omega) h0 w
    · have u := (Int.ediv_emod_unique (a := a) (r := a.tmod b + b) (q := a.tdiv b - 1) hb).2 ⟨by rw [Int.mul_sub]; omega, by omega, by omega⟩
      rw [u.1, u.2]
      have q1 : -9223372036854775807 ≤ a.tdiv b := by
        by_cases hm : a.tdiv b = -9223372036854775808
        · exfalso
          rw [hm] at e
          omega
        · omega
      exact floor_odd a b _ _ hb (by omega) (by omega) rfl rfl q1 q.2 (by omega) (by omega) (by omega) w

theorem min64 (k : Nat) (h : k < 64) : min ((k : Int)).toNat 64 = k := by omega
theorem min64' (k : Nat) (h : 64 ≤ k) : min ((k : Int)).toNat 64 = 64 := by omega
theorem pow_pos2 (k : Nat) : (0 : Int) < 2 ^ k := Int.pow_pos (by omega)
theorem pow_le63 (k : Nat) (h : k < 64) : (2 : Int) ^ k ≤ 9223372036854775808 := by
  have h1 : (2 : Nat) ^ k ≤ 2 ^ 63 := Nat.pow_le_pow_right (by omega) (by omega)
  have h2 : ((2 ^ k : Nat) : Int) ≤ ((2 ^ 63 : Nat) : Int) := Int.ofNat_le.2 h1
  have h3 : ((2 ^ k : Nat) : Int) = (2 : Int) ^ k := by simp
  have h4 : ((2 ^ 63 : Nat) : Int) = 9223372036854775808 := by decide
  omega
theorem big_over (a : Int) (k : Nat) (h : 64 ≤ k) (ha : a ≠ 0) : ¬ (-9223372036854775808 ≤ a * 2 ^ k ∧ a * 2 ^ k ≤ 9223372036854775807) := by
  intro hf
  have e : (2 : Int) ^ k = 18446744073709551616 * 2 ^ (k - 64) := by
    rw [show (18446744073709551616 : Int) = 2 ^ 64 from rfl, ← Int.pow_add]; congr 1; omega
  have hp := pow_pos2 (k - 64)
  rw [e] at hf
  have e2 : a * (18446744073709551616 * 2 ^ (k - 64)) = 18446744073709551616 * (a * 2 ^ (k - 64)) := by rw [Int.mul_left_comm]
  rw [e2] at hf
  have hz : a * 2 ^ (k - 64) = 0 := by omega
  rcases Int.mul_eq_zero.1 hz with h1 | h1
  · exact ha h1
  · omega

/-- SHL, WHERE IT FITS. -/
theorem shl_fits (a : Int) (k : Nat) (h : -9223372036854775808 ≤ a * 2 ^ k ∧ a * 2 ^ k ≤ 9223372036854775807) (w : World) :
    Calls Tryd.prog 22 #[.int .i64 a, .int .i64 k] w fun e w' => e = .returned (.tuple #[.int .i64 (a * 2 ^ k), .bool true]) ∧ Below w.heap.size w w' := by
  by_cases hk : k < 64
  · have hp := pow_pos2 k
    exact shl_yes a k (2 ^ k) (a * 2 ^ k) a (by omega) (by rw [min64 k hk]) (by rw [IntWalk.i64_left]; exact wrap_fits h) (wrap_fits h) (Int.mul_ediv_cancel a (by omega)) (by simp) w
  · by_cases ha : a = 0
    · subst ha
      rw [Int.zero_mul]
      exact shl_yes 0 k (2 ^ 64) 0 0 (by omega) (by rw [min64' k (by omega)]) (by rw [Int.zero_mul]; rfl) (by rw [Int.zero_mul]; unfold wrap64; omega) (by simp) (by simp) w
    · exact absurd h (big_over a k (by omega) ha)

/-- SHL, WHERE IT DOES NOT. -/
theorem shl_over (a : Int) (k : Nat) (h : ¬ (-9223372036854775808 ≤ a * 2 ^ k ∧ a * 2 ^ k ≤ 9223372036854775807)) (w : World) :
    Calls Tryd.prog 22 #[.int .i64 a, .int .i64 k] w fun e w' => e = .returned (.tuple #[.int .i64 0, .bool false]) ∧ Below w.heap.size w w' := by
  have ha : a ≠ 0 := by intro e; subst e; exact h ⟨by simp, by simp⟩
  by_cases hk : k < 64
  · have hp := pow_pos2 k
    have hp2 := pow_le63 k hk
    refine shl_no a k (2 ^ k) (wrap64 (a * 2 ^ k)) _ (by omega) (by rw [min64 k hk]) (by rw [IntWalk.i64_left]) rfl rfl ?_ w
    have hne : wrap64 (a * 2 ^ k) / 2 ^ k ≠ a := by
      intro e
      obtain ⟨m, hm⟩ := wrap_mod (a * 2 ^ k)
      have hb := wrap_bd (a * 2 ^ k)
      have e1 := Int.mul_ediv_add_emod (wrap64 (a * 2 ^ k)) (2 ^ k)
      have e2 := Int.emod_nonneg (wrap64 (a * 2 ^ k)) (b := 2 ^ k) (by omega)
      have e3 := Int.emod_lt_of_pos (wrap64 (a * 2 ^ k)) hp
      rw [e, Int.mul_comm (2 ^ k) a] at e1
      have hm0 : m = 0 := by omega
      subst hm0
      omega
    simpa using hne
  · refine shl_no a k (2 ^ 64) 0 0 (by omega) (by rw [min64' k (by omega)]) ?_ ?_ (by simp) (by simpa using fun e : 0 = a => ha e.symm) w
    · rw [IntWalk.i64_left]; unfold wrap64; omega
    · unfold wrap64; omega
end Go.Proofs.YtghhgihfgoenjaaDoor
