/-
  What the document's own Floor tells, for any two numbers of 64 bits, in whatever memory.
-/
import Derived.Test.YtlipbdiijjfheaaGreatDoorProg
import Derived.Test.YtlipbdiijjfheaaGreatDoorPlain
import Derived.Handy
import Derived.WalkSpells
import Derived.WalkLawsBesides
import Derived.Deep.QuietTactic
import Derived.BigQuiet
namespace Go.Proofs.YtlipbdiijjfheaaGreatDoor
open Go.RowKit

set_option maxHeartbeats 400000 in
theorem reffloor_no (a b : Int) (hb : b ≤ 0) (w : World) :
    Calls Tryz.prog 96 #[.int .i64 a, .int .i64 b] w fun e w' => e = .returned (.tuple #[.int .i64 0, .int .i64 0, .bool false]) ∧ Below w.heap.size w w' := by
  go_enter Tryz.func96, Tryz.ntmps96
  go_wp2
  go_ret3
  exact ⟨rfl, Below.refl _ _⟩

set_option maxHeartbeats 400000 in
theorem reffloor_up (a b : Int) (hb : 0 < b) (hz : ¬ b = 0) (h : 0 ≤ a) (h2 : a ≤ 9223372036854775807) (w : World) :
    Calls Tryz.prog 96 #[.int .i64 a, .int .i64 b] w fun e w' => e = .returned (.tuple #[.int .i64 (a / b), .int .i64 (a % b), .bool true]) ∧ Below w.heap.size w w' := by
  have hr : 0 ≤ a % b := Int.emod_nonneg _ hz
  go_enter Tryz.func96, Tryz.ntmps96
  go_wp2
  go_quiet (fail)
  go_wp2
  go_ret3
  exact ⟨rfl, belowN (Below.refl _ _) _⟩

set_option maxHeartbeats 400000 in
theorem reffloor_even (a b q r : Int) (hb : 0 < b) (hz : ¬ b = 0) (_h : a < 0) (hq : a.tdiv b = q) (hr : a.tmod b = r) (q1 : -9223372036854775808 ≤ q) (q2 : q ≤ 9223372036854775807) (r1 : -9223372036854775808 ≤ r) (r2 : r ≤ 9223372036854775807) (h0 : 0 ≤ r) (w : World) :
    Calls Tryz.prog 96 #[.int .i64 a, .int .i64 b] w fun e w' => e = .returned (.tuple #[.int .i64 q, .int .i64 r, .bool true]) ∧ Below w.heap.size w w' := by
  go_enter Tryz.func96, Tryz.ntmps96
  go_wp2
  go_quiet (fail)
  go_wp2
  go_ret3
  exact ⟨rfl, belowN (Below.refl _ _) _⟩

set_option maxHeartbeats 400000 in
theorem reffloor_odd (a b q r : Int) (hb : 0 < b) (hz : ¬ b = 0) (_h : a < 0) (hq : a.tdiv b = q) (hr : a.tmod b = r) (q1 : -9223372036854775807 ≤ q) (q2 : q ≤ 9223372036854775807) (r1 : -9223372036854775808 ≤ r) (r2 : r + b ≤ 9223372036854775807) (h0 : r < 0) (w : World) :
    Calls Tryz.prog 96 #[.int .i64 a, .int .i64 b] w fun e w' => e = .returned (.tuple #[.int .i64 (q - 1), .int .i64 (r + b), .bool true]) ∧ Below w.heap.size w w' := by
  go_enter Tryz.func96, Tryz.ntmps96
  go_wp2
  go_quiet (fail)
  go_wp2
  go_ret3
  exact ⟨rfl, belowN (Below.refl _ _) _⟩

/-- FLOOR, whatever is divided by a number above nought. -/
theorem reffloor_any (a b : Int) (a1 : -9223372036854775808 ≤ a) (a2 : a ≤ 9223372036854775807) (hb : 0 < b) (b2 : b ≤ 9223372036854775807) (w : World) :
    Calls Tryz.prog 96 #[.int .i64 a, .int .i64 b] w fun e w' => e = .returned (.tuple #[.int .i64 (a / b), .int .i64 (a % b), .bool true]) ∧ Below w.heap.size w w' := by
  by_cases h : 0 ≤ a
  · exact reffloor_up a b hb (by omega) h a2 w
  · have e := Int.mul_tdiv_add_tmod a b
    have q := tdiv_bd (a := b) a1 a2 (by omega)
    have r1 : a.tmod b = -((-a) % b) := by
      have := Int.neg_tmod (-a) b
      rw [Int.neg_neg] at this
      rw [this, Int.tmod_eq_emod_of_nonneg (by omega)]
    have r2 := Int.emod_nonneg (-a) (b := b) (by omega)
    have r3 := Int.emod_lt_of_pos (-a) hb
    by_cases h0 : 0 ≤ a.tmod b
    · have u := (Int.ediv_emod_unique (a := a) (r := a.tmod b) (q := a.tdiv b) hb).2 ⟨by omega, h0, by omega⟩
      rw [u.1, u.2]
      exact reffloor_even a b _ _ hb (by omega) (by omega) rfl rfl q.1 q.2 (by omega) (by omega) h0 w
    · have u := (Int.ediv_emod_unique (a := a) (r := a.tmod b + b) (q := a.tdiv b - 1) hb).2 ⟨by rw [Int.mul_sub]; omega, by omega, by omega⟩
      rw [u.1, u.2]
      have q1 : -9223372036854775807 ≤ a.tdiv b := by
        by_cases hm : a.tdiv b = -9223372036854775808
        · exfalso
          rw [hm] at e
          omega
        · omega
      exact reffloor_odd a b _ _ hb (by omega) (by omega) rfl rfl q1 q.2 (by omega) (by omega) (by omega) w
end Go.Proofs.YtlipbdiijjfheaaGreatDoor
