/-
  What Mul of package num tells, for any two numbers of 64 bits, in whatever memory: the product where it fits, else nought and false.
-/
import Derived.Test.YtghhgihfgoenjaaDoorNumPairs
namespace Go.Proofs.YtghhgihfgoenjaaDoor
open Go.RowKit

set_option maxHeartbeats 400000 in
theorem mul_nought (b : Int) (w : World) :
    Calls Tryd.prog 10 #[.int .i64 0, .int .i64 b] w fun e w' => e = .returned (.tuple #[.int .i64 0, .bool true]) ∧ Below w.heap.size w w' := by
  have hmf := hmf
  go_enter Tryd.func10, Tryd.ntmps10
  go_wp2
  go_ret2
  exact ⟨rfl, by go_grown⟩

set_option maxHeartbeats 400000 in
theorem mul_minus (b : Int) (h : -9223372036854775808 < b) (h' : b ≤ 9223372036854775807) (hne : (b != -9223372036854775808) = true) (w : World) :
    Calls Tryd.prog 10 #[.int .i64 (-1), .int .i64 b] w fun e w' => e = .returned (.tuple #[.int .i64 (-b), .bool true]) ∧ Below w.heap.size w w' := by
  have hmf := hmf
  go_enter Tryd.func10, Tryd.ntmps10
  go_wp2
  go_quiet (fail)
  go_wp2
  go_ret2
  exact ⟨rfl, belowN (by go_grown) _⟩

set_option maxHeartbeats 400000 in
theorem mul_low (w : World) :
    Calls Tryd.prog 10 #[.int .i64 (-1), .int .i64 (-9223372036854775808)] w fun e w' => e = .returned (.tuple #[.int .i64 0, .bool false]) ∧ Below w.heap.size w w' := by
  have hmf := hmf
  go_enter Tryd.func10, Tryd.ntmps10
  go_wp2
  go_quiet (fail)
  go_wp2
  go_ret2
  exact ⟨rfl, belowN (by go_grown) _⟩

set_option maxHeartbeats 400000 in
theorem mul_yes (a b n q : Int) (hz : ¬ a = 0) (h0 : (a == 0) = false) (h1 : (a == -1) = false) (hn : wrap64 (a * b) = n) (hq : n.tdiv a = q) (q1 : -9223372036854775808 ≤ q) (q2 : q ≤ 9223372036854775807) (hy : (q == b) = true) (w : World) :
    Calls Tryd.prog 10 #[.int .i64 a, .int .i64 b] w fun e w' => e = .returned (.tuple #[.int .i64 n, .bool true]) ∧ Below w.heap.size w w' := by
  have hmf := hmf
  go_enter Tryd.func10, Tryd.ntmps10
  go_wp2
  go_quiet (fail)
  go_wp2
  go_ret2
  exact ⟨rfl, belowN (by go_grown) _⟩

set_option maxHeartbeats 400000 in
theorem mul_no (a b n q : Int) (hz : ¬ a = 0) (h0 : (a == 0) = false) (h1 : (a == -1) = false) (hn : wrap64 (a * b) = n) (hq : n.tdiv a = q) (q1 : -9223372036854775808 ≤ q) (q2 : q ≤ 9223372036854775807) (hy : (q == b) = false) (w : World) :
    Calls Tryd.prog 10 #[.int .i64 a, .int .i64 b] w fun e w' => e = .returned (.tuple #[.int .i64 0, .bool false]) ∧ Below w.heap.size w w' := by
  have hmf := hmf
  go_enter Tryd.func10, Tryd.ntmps10
  go_wp2
  go_quiet (fail)
  go_wp2
  go_ret2
  exact ⟨rfl, belowN (by go_grown) _⟩

/-- MUL, WHERE THE PRODUCT FITS. -/
theorem mul_fits (a b : Int) (a1 : -9223372036854775808 ≤ a) (a2 : a ≤ 9223372036854775807) (b1 : -9223372036854775808 ≤ b) (b2 : b ≤ 9223372036854775807)
    (h : -9223372036854775808 ≤ a * b ∧ a * b ≤ 9223372036854775807) (w : World) :
    Calls Tryd.prog 10 #[.int .i64 a, .int .i64 b] w fun e w' => e = .returned (.tuple #[.int .i64 (a * b), .bool true]) ∧ Below w.heap.size w w' := by
  by_cases h0 : a = 0
  · subst h0; rw [Int.zero_mul]; exact mul_nought b w
  · by_cases h1 : a = -1
    · subst h1
      have e : (-1 : Int) * b = -b := by omega
      rw [e] at h ⊢
      exact mul_minus b (by omega) b2 (by simp; omega) w
    · exact mul_yes a b (a * b) b h0 (by simpa using h0) (by simpa using h1) (wrap_fits h) (back_fits h0) b1 b2 (by simp) w

/-- MUL, WHERE IT DOES NOT. -/
theorem mul_over (a b : Int) (a1 : -9223372036854775808 ≤ a) (a2 : a ≤ 9223372036854775807) (b1 : -9223372036854775808 ≤ b) (b2 : b ≤ 9223372036854775807)
    (h : ¬ (-9223372036854775808 ≤ a * b ∧ a * b ≤ 9223372036854775807)) (w : World) :
    Calls Tryd.prog 10 #[.int .i64 a, .int .i64 b] w fun e w' => e = .returned (.tuple #[.int .i64 0, .bool false]) ∧ Below w.heap.size w w' := by
  by_cases h0 : a = 0
  · subst h0; exact absurd ⟨by simp, by simp⟩ h
  · by_cases h1 : a = -1
    · subst h1
      have e : (-1 : Int) * b = -b := by omega
      rw [e] at h
      obtain rfl : b = -9223372036854775808 := by omega
      exact mul_low w
    · have hw := wrap_bd (a * b)
      have hq := tdiv_bd hw.1 hw.2 h1
      have hne := back_over h0 a1 a2 rfl h
      exact mul_no a b (wrap64 (a * b)) ((wrap64 (a * b)).tdiv a) h0 (by simpa using h0) (by simpa using h1) rfl rfl hq.1 hq.2 (by simpa using hne) w
end Go.Proofs.YtghhgihfgoenjaaDoor
