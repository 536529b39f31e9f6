/-
  What the document's own Steps tells, for any numbers of the lattice that are no ends of 64 bits, in whatever memory.
-/
import Derived.Test.YtnnbdlnginkldabDoorRefMul
import Derived.Test.YtnnbdlnginkldabDoorRefSize
namespace Go.Proofs.YtnnbdlnginkldabDoor
open Go.RowKit

theorem ret_pair {a b : Int} {c : Bool} (h : a = b) : Ending.returned (.tuple #[.int .i64 a, .bool c]) = .returned (.tuple #[.int .i64 b, .bool c]) := by rw [h]

set_option maxHeartbeats 1000000 in
theorem refsteps_yes (a b : Int) (a1 : -9223372036854775808 < a) (a2 : a ≤ 9223372036854775807) (b1 : -9223372036854775808 < b) (b2 : b ≤ 9223372036854775807) (c1 : -9223372036854775808 < a + b) (c2 : a + b ≤ 9223372036854775807) (w : World) :
    Calls Tryd.prog 17 #[.agg #[.int .i64 a, .int .i64 b]] w fun e w' => e = .returned (.tuple #[.int .i64 (max (max (a.natAbs : Int) b.natAbs) (a + b).natAbs), .bool true]) ∧ Below w.heap.size w w' := by
  have e2 := kept_mk (n := a + b) (fits_mk ⟨by omega, by omega⟩)
  have e3 := fits_mk (n := a + b) ⟨by omega, by omega⟩
  have SM : Hid (∀ w, Calls Tryd.prog 32 #[.agg #[.int .u64 (high64 (a + b)), .int .u64 (low64 (a + b))]] w fun e w' => e = .returned (.tuple #[.int .i64 (a + b), .bool true]) ∧ Below w.heap.size w w') := by
    intro w
    have := small_any (a + b) (by omega) (by omega) w
    rw [e2, e3] at this
    exact this
  have b1' : -9223372036854775808 ≤ b := by omega
  have a1' : -9223372036854775808 ≤ a := by omega
  have t1 : (a == -9223372036854775808) = false := by simpa using (show a ≠ -9223372036854775808 by omega)
  have t2 : (b == -9223372036854775808) = false := by simpa using (show b ≠ -9223372036854775808 by omega)
  have t3 : (a + b == -9223372036854775808) = false := by simpa using (show a + b ≠ -9223372036854775808 by omega)
  clear e2 e3
  have s0 : (w.alloc (.cells #[.int .i64 a, .int .i64 b] 23)).drew.cell? ⟨w.heap.size, 0, none⟩ = some (.int .i64 a) := by go_simp
  have s1 : (w.alloc (.cells #[.int .i64 a, .int .i64 b] 23)).drew.cell? ⟨w.heap.size, 1, none⟩ = some (.int .i64 b) := by go_simp
  have hbw : Below w.heap.size w (w.alloc (.cells #[.int .i64 a, .int .i64 b] 23)).drew := ((Below.refl _ _).alloc (Nat.le_refl _) _).drew
  go_enter Tryd.func17, Tryd.ntmps17
  go_wp2_with fail
  go_region_held3 (fun w' => w'.cell? ⟨w.heap.size, 0, none⟩ = some (.int .i64 a) ∧ w'.cell? ⟨w.heap.size, 1, none⟩ = some (.int .i64 b) ∧ Below w.heap.size w w') (first | exact ⟨s0, s1, hbw⟩ | (exact And.intro (keepCell hb (And.left (by assumption))) (And.intro (keepCell hb (And.left (And.right (by assumption)))) (belowT (And.right (And.right (by assumption))) hb))))
    (first | (go_at_call 30; refine (wide_any _ (by assumption) (by assumption) _).mono ?_; rintro e w' ⟨rfl, hb⟩) | (go_at_call 31; refine (plus_any _ _ _).mono ?_; rintro e w' ⟨rfl, hb⟩) | (go_at_call 32; refine (SM.out _).mono ?_; rintro e w' ⟨rfl, hb⟩))
  go_wp2_with fail
  go_quiet ((go_at_call 33; exact Calls.quiet_of_same (size_any _ (by omega) (by omega) _)))
  go_wp2
  all_goals
    have hS : Below w.heap.size w w' := (‹w'.cell? ⟨w.heap.size, 0, none⟩ = some (.int .i64 a) ∧ w'.cell? ⟨w.heap.size, 1, none⟩ = some (.int .i64 b) ∧ Below w.heap.size w w'›).2.2
    go_ret2
    exact ⟨ret_pair (by omega), belowN hS _⟩
end Go.Proofs.YtnnbdlnginkldabDoor
