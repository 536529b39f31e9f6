/-
  What Norm of package eisen tells, for any number of the lattice with parts of 64 bits, in whatever memory: the Norm, where it fits, else nought and false.
-/
import Derived.Test.YtnnbdlnginkldabDoorERing
namespace Go.Proofs.YtnnbdlnginkldabDoor
open Go.RowKit

theorem keepTwo {w0 a b : World} {p0 p1 : Addr} {v0 v1 : Value} (hb : Below a.heap.size a b) (h : a.cell? p0 = some v0 ∧ a.cell? p1 = some v1 ∧ Below w0.heap.size w0 a) :
    b.cell? p0 = some v0 ∧ b.cell? p1 = some v1 ∧ Below w0.heap.size w0 b := ⟨keepCell hb h.1, keepCell hb h.2.1, belowT h.2.2 hb⟩

set_option maxHeartbeats 4000000 in
theorem enorm_any (a b : Int) (a1 : -9223372036854775808 ≤ a) (a2 : a ≤ 9223372036854775807) (b1 : -9223372036854775808 ≤ b) (b2 : b ≤ 9223372036854775807) (w : World) :
    Calls Tryd.prog 57 #[.agg #[.int .i64 a, .int .i64 b]] w fun e w' => e = .returned (.tuple #[.int .i64 (kept (a * a + a * b + b * b)), .bool (fits (a * a + a * b + b * b))]) ∧ Below w.heap.size w w' := by
  have p1 := prod126 a1 a2 a1 a2
  have p2 := prod126 b1 b2 b1 b2
  have p3 := prod126 a1 a2 b1 b2
  have N1 : Hid (∀ w, Calls Tryd.prog 69 #[.agg #[.int .u64 (high64 (a * a + a * b + b * b)), .int .u64 (low64 (a * a + a * b + b * b))]] w fun e w' => e = .returned (.tuple #[.int .i64 (kept (a * a + a * b + b * b)), .bool (fits (a * a + a * b + b * b))]) ∧ Below w.heap.size w w') := fun w => enarrow_any _ (by omega) (by omega) w
  clear p1 p2 p3
  have s0 : (w.alloc (.cells #[.int .i64 a, .int .i64 b] 23)).drew.cell? ⟨w.heap.size, 0, none⟩ = some (.int .i64 a) := by go_simp
  have s1 : (w.alloc (.cells #[.int .i64 a, .int .i64 b] 23)).drew.cell? ⟨w.heap.size, 1, none⟩ = some (.int .i64 b) := by go_simp
  have hbw : Below w.heap.size w (w.alloc (.cells #[.int .i64 a, .int .i64 b] 23)).drew := ((Below.refl _ _).alloc (Nat.le_refl _) _).drew
  go_enter Tryd.func57, Tryd.ntmps57
  go_wp2_with fail
  go_region_held3 (fun w' => w'.cell? ⟨w.heap.size, 0, none⟩ = some (.int .i64 a) ∧ w'.cell? ⟨w.heap.size, 1, none⟩ = some (.int .i64 b) ∧ Below w.heap.size w w') (first | exact ⟨s0, s1, hbw⟩ | exact keepTwo hb (by assumption))
    (first | (go_at_call 67; refine (eproduct_any _ _ (by assumption) (by assumption) (by assumption) (by assumption) _).mono ?_; rintro e w' ⟨rfl, hb⟩) | (go_at_call 70; refine (eplus_any _ _ _).mono ?_; rintro e w' ⟨rfl, hb⟩) | (go_at_call 69; refine (N1.out _).mono ?_; rintro e w' ⟨rfl, hb⟩))
  rename_i hS
  go_wp2
  go_ret2
  exact ⟨rfl, hS.2.2⟩
end Go.Proofs.YtnnbdlnginkldabDoor
