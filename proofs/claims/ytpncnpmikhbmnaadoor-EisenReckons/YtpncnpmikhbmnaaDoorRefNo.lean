/-
  Where the document's own Steps refuses, for any numbers of 64 bits, in whatever memory.
-/
import Derived.Test.YtpncnpmikhbmnaaDoorRefNorm
namespace Go.Proofs.YtpncnpmikhbmnaaDoor
open Go.RowKit

set_option maxHeartbeats 1000000 in
theorem refsteps_over (a b : Int) (a1 : -9223372036854775808 ≤ a) (a2 : a ≤ 9223372036854775807) (b1 : -9223372036854775808 ≤ b) (b2 : b ≤ 9223372036854775807) (c1 : fits (a + b) = false) (w : World) :
    Calls Tryd.prog 29 #[.agg #[.int .i64 a, .int .i64 b]] w fun e w' => e = .returned (.tuple #[.int .i64 0, .bool false]) ∧ Below w.heap.size w w' := by
  have SM : Hid (∀ w, Calls Tryd.prog 27 #[.agg #[.int .u64 (high64 (a + b)), .int .u64 (low64 (a + b))]] w fun e w' => e = .returned (.tuple #[.int .i64 0, .bool false]) ∧ Below w.heap.size w w') := by
    intro w
    have := small_any (a + b) (by omega) (by omega) w
    rw [kept_no c1, c1] at this
    exact this
  clear c1
  have s0 : (w.alloc (.cells #[.int .i64 a, .int .i64 b] 23)).drew.cell? ⟨w.heap.size, 0, none⟩ = some (.int .i64 a) := by go_simp
  have s1 : (w.alloc (.cells #[.int .i64 a, .int .i64 b] 23)).drew.cell? ⟨w.heap.size, 1, none⟩ = some (.int .i64 b) := by go_simp
  have hbw : Below w.heap.size w (w.alloc (.cells #[.int .i64 a, .int .i64 b] 23)).drew := ((Below.refl _ _).alloc (Nat.le_refl _) _).drew
  go_enter Tryd.func29, Tryd.ntmps29
  go_wp2_with fail
  go_region_held3 (fun w' => w'.cell? ⟨w.heap.size, 0, none⟩ = some (.int .i64 a) ∧ w'.cell? ⟨w.heap.size, 1, none⟩ = some (.int .i64 b) ∧ Below w.heap.size w w') (first | exact ⟨s0, s1, hbw⟩ | (exact And.intro (keepCell hb (And.left (by assumption))) (And.intro (keepCell hb (And.left (And.right (by assumption)))) (belowT (And.right (And.right (by assumption))) hb))))
    (first | (go_at_call 21; refine (wide_any _ (by assumption) (by assumption) _).mono ?_; rintro e w' ⟨rfl, hb⟩) | (go_at_call 22; refine (plus_any _ _ _).mono ?_; rintro e w' ⟨rfl, hb⟩) | (go_at_call 27; refine (SM.out _).mono ?_; rintro e w' ⟨rfl, hb⟩))
  go_wp2
  have hS : Below w.heap.size w w' := (‹w'.cell? ⟨w.heap.size, 0, none⟩ = some (.int .i64 a) ∧ w'.cell? ⟨w.heap.size, 1, none⟩ = some (.int .i64 b) ∧ Below w.heap.size w w'›).2.2
  go_ret2
  exact ⟨rfl, hS⟩

set_option maxHeartbeats 1000000 in
theorem refsteps_lowA (a b : Int) (a1 : -9223372036854775808 ≤ a) (a2 : a ≤ 9223372036854775807) (b1 : -9223372036854775808 ≤ b) (b2 : b ≤ 9223372036854775807) (c1 : fits (a + b) = true) (t1 : (a == -9223372036854775808) = true) (w : World) :
    Calls Tryd.prog 29 #[.agg #[.int .i64 a, .int .i64 b]] w fun e w' => e = .returned (.tuple #[.int .i64 0, .bool false]) ∧ Below w.heap.size w w' := by
  have SM : Hid (∀ w, Calls Tryd.prog 27 #[.agg #[.int .u64 (high64 (a + b)), .int .u64 (low64 (a + b))]] w fun e w' => e = .returned (.tuple #[.int .i64 (a + b), .bool true]) ∧ Below w.heap.size w w') := by
    intro w
    have := small_any (a + b) (by omega) (by omega) w
    rw [kept_mk c1, c1] at this
    exact this
  clear c1
  have s0 : (w.alloc (.cells #[.int .i64 a, .int .i64 b] 23)).drew.cell? ⟨w.heap.size, 0, none⟩ = some (.int .i64 a) := by go_simp
  have s1 : (w.alloc (.cells #[.int .i64 a, .int .i64 b] 23)).drew.cell? ⟨w.heap.size, 1, none⟩ = some (.int .i64 b) := by go_simp
  have hbw : Below w.heap.size w (w.alloc (.cells #[.int .i64 a, .int .i64 b] 23)).drew := ((Below.refl _ _).alloc (Nat.le_refl _) _).drew
  go_enter Tryd.func29, Tryd.ntmps29
  go_wp2_with fail
  go_region_held3 (fun w' => w'.cell? ⟨w.heap.size, 0, none⟩ = some (.int .i64 a) ∧ w'.cell? ⟨w.heap.size, 1, none⟩ = some (.int .i64 b) ∧ Below w.heap.size w w') (first | exact ⟨s0, s1, hbw⟩ | (exact And.intro (keepCell hb (And.left (by assumption))) (And.intro (keepCell hb (And.left (And.right (by assumption)))) (belowT (And.right (And.right (by assumption))) hb))))
    (first | (go_at_call 21; refine (wide_any _ (by assumption) (by assumption) _).mono ?_; rintro e w' ⟨rfl, hb⟩) | (go_at_call 22; refine (plus_any _ _ _).mono ?_; rintro e w' ⟨rfl, hb⟩) | (go_at_call 27; refine (SM.out _).mono ?_; rintro e w' ⟨rfl, hb⟩))
  go_wp2
  have hS : Below w.heap.size w w' := (‹w'.cell? ⟨w.heap.size, 0, none⟩ = some (.int .i64 a) ∧ w'.cell? ⟨w.heap.size, 1, none⟩ = some (.int .i64 b) ∧ Below w.heap.size w w'›).2.2
  go_ret2
  exact ⟨rfl, hS⟩

set_option maxHeartbeats 1000000 in
theorem refsteps_lowB (a b : Int) (a1 : -9223372036854775808 ≤ a) (a2 : a ≤ 9223372036854775807) (b1 : -9223372036854775808 ≤ b) (b2 : b ≤ 9223372036854775807) (c1 : fits (a + b) = true) (t1 : (a == -9223372036854775808) = false) (t2 : (b == -9223372036854775808) = true) (w : World) :
    Calls Tryd.prog 29 #[.agg #[.int .i64 a, .int .i64 b]] w fun e w' => e = .returned (.tuple #[.int .i64 0, .bool false]) ∧ Below w.heap.size w w' := by
  have SM : Hid (∀ w, Calls Tryd.prog 27 #[.agg #[.int .u64 (high64 (a + b)), .int .u64 (low64 (a + b))]] w fun e w' => e = .returned (.tuple #[.int .i64 (a + b), .bool true]) ∧ Below w.heap.size w w') := by
    intro w
    have := small_any (a + b) (by omega) (by omega) w
    rw [kept_mk c1, c1] at this
    exact this
  clear c1
  have s0 : (w.alloc (.cells #[.int .i64 a, .int .i64 b] 23)).drew.cell? ⟨w.heap.size, 0, none⟩ = some (.int .i64 a) := by go_simp
  have s1 : (w.alloc (.cells #[.int .i64 a, .int .i64 b] 23)).drew.cell? ⟨w.heap.size, 1, none⟩ = some (.int .i64 b) := by go_simp
  have hbw : Below w.heap.size w (w.alloc (.cells #[.int .i64 a, .int .i64 b] 23)).drew := ((Below.refl _ _).alloc (Nat.le_refl _) _).drew
  go_enter Tryd.func29, Tryd.ntmps29
  go_wp2_with fail
  go_region_held3 (fun w' => w'.cell? ⟨w.heap.size, 0, none⟩ = some (.int .i64 a) ∧ w'.cell? ⟨w.heap.size, 1, none⟩ = some (.int .i64 b) ∧ Below w.heap.size w w') (first | exact ⟨s0, s1, hbw⟩ | (exact And.intro (keepCell hb (And.left (by assumption))) (And.intro (keepCell hb (And.left (And.right (by assumption)))) (belowT (And.right (And.right (by assumption))) hb))))
    (first | (go_at_call 21; refine (wide_any _ (by assumption) (by assumption) _).mono ?_; rintro e w' ⟨rfl, hb⟩) | (go_at_call 22; refine (plus_any _ _ _).mono ?_; rintro e w' ⟨rfl, hb⟩) | (go_at_call 27; refine (SM.out _).mono ?_; rintro e w' ⟨rfl, hb⟩))
  go_wp2
  have hS : Below w.heap.size w w' := (‹w'.cell? ⟨w.heap.size, 0, none⟩ = some (.int .i64 a) ∧ w'.cell? ⟨w.heap.size, 1, none⟩ = some (.int .i64 b) ∧ Below w.heap.size w w'›).2.2
  go_ret2
  exact ⟨rfl, hS⟩

set_option maxHeartbeats 1000000 in
theorem refsteps_lowC (a b : Int) (a1 : -9223372036854775808 ≤ a) (a2 : a ≤ 9223372036854775807) (b1 : -9223372036854775808 ≤ b) (b2 : b ≤ 9223372036854775807) (c1 : fits (a + b) = true) (t1 : (a == -9223372036854775808) = false) (t2 : (b == -9223372036854775808) = false) (t3 : (a + b == -9223372036854775808) = true) (w : World) :
    Calls Tryd.prog 29 #[.agg #[.int .i64 a, .int .i64 b]] w fun e w' => e = .returned (.tuple #[.int .i64 0, .bool false]) ∧ Below w.heap.size w w' := by
  have SM : Hid (∀ w, Calls Tryd.prog 27 #[.agg #[.int .u64 (high64 (a + b)), .int .u64 (low64 (a + b))]] w fun e w' => e = .returned (.tuple #[.int .i64 (a + b), .bool true]) ∧ Below w.heap.size w w') := by
    intro w
    have := small_any (a + b) (by omega) (by omega) w
    rw [kept_mk c1, c1] at this
    exact this
  clear c1
  have s0 : (w.alloc (.cells #[.int .i64 a, .int .i64 b] 23)).drew.cell? ⟨w.heap.size, 0, none⟩ = some (.int .i64 a) := by go_simp
  have s1 : (w.alloc (.cells #[.int .i64 a, .int .i64 b] 23)).drew.cell? ⟨w.heap.size, 1, none⟩ = some (.int .i64 b) := by go_simp
  have hbw : Below w.heap.size w (w.alloc (.cells #[.int .i64 a, .int .i64 b] 23)).drew := ((Below.refl _ _).alloc (Nat.le_refl _) _).drew
  go_enter Tryd.func29, Tryd.ntmps29
  go_wp2_with fail
  go_region_held3 (fun w' => w'.cell? ⟨w.heap.size, 0, none⟩ = some (.int .i64 a) ∧ w'.cell? ⟨w.heap.size, 1, none⟩ = some (.int .i64 b) ∧ Below w.heap.size w w') (first | exact ⟨s0, s1, hbw⟩ | (exact And.intro (keepCell hb (And.left (by assumption))) (And.intro (keepCell hb (And.left (And.right (by assumption)))) (belowT (And.right (And.right (by assumption))) hb))))
    (first | (go_at_call 21; refine (wide_any _ (by assumption) (by assumption) _).mono ?_; rintro e w' ⟨rfl, hb⟩) | (go_at_call 22; refine (plus_any _ _ _).mono ?_; rintro e w' ⟨rfl, hb⟩) | (go_at_call 27; refine (SM.out _).mono ?_; rintro e w' ⟨rfl, hb⟩))
  go_wp2
  have hS : Below w.heap.size w w' := (‹w'.cell? ⟨w.heap.size, 0, none⟩ = some (.int .i64 a) ∧ w'.cell? ⟨w.heap.size, 1, none⟩ = some (.int .i64 b) ∧ Below w.heap.size w w'›).2.2
  go_ret2
  exact ⟨rfl, hS⟩
end Go.Proofs.YtpncnpmikhbmnaaDoor
