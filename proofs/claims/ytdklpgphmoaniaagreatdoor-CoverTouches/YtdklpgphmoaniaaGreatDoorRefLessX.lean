/-
  What the document's own Less of two wide numbers tells, and on which side of a way a point lies, for any numbers within the bounds written, in whatever memory.
-/
import Derived.Test.YtdklpgphmoaniaaGreatDoorR1X
import Derived.Test.YtdklpgphmoaniaaGreatDoorProg
import Derived.Handy
import Derived.Deep.QuietTactic
import Derived.WalkSpells
import Derived.WalkLawsBesides
import Derived.BigQuiet
import Derived.PlainAid
import Derived.Deep.RegionWith
import Derived.Laws.BitsAllLaws
import Derived.Deep.RegionHeld3
import Derived.WalkSmall
import Derived.WalkKit
namespace Go.Proofs.YtdklpgphmoaniaaGreatDoor
open Go.RowKit

set_option maxHeartbeats 400000 in
theorem below_raw (a b s : Int) (hs : a / 9223372036854775808 = s) (w : World) :
    Calls Tryz.prog 122 #[.agg #[.int .u64 a, .int .u64 b]] w fun e w' => e = .returned (.bool (s == 1)) ∧ Below w.heap.size w w' := by
  go_enter Tryz.func122, Tryz.ntmps122
  go_wp2
  go_ret
  exact ⟨rfl, by go_grown⟩

theorem below_any (z : Int) (v : Bool) (hv : decide (z < 0) = v) (z1 : -170141183460469231731687303715884105728 ≤ z) (z2 : z ≤ 170141183460469231731687303715884105727) (w : World) :
    Calls Tryz.prog 122 #[.agg #[.int .u64 (high64 z), .int .u64 (low64 z)]] w fun e w' => e = .returned (.bool v) ∧ Below w.heap.size w w' := by
  have h := below_raw (high64 z) (low64 z) _ rfl w
  have e : (high64 z / 9223372036854775808 == 1) = v := by
    rw [← hv]
    by_cases hz : z < 0
    · rw [decide_eq_true hz, beq_iff_eq]; unfold high64; omega
    · rw [decide_eq_false hz]
      have : ¬ high64 z / 9223372036854775808 = 1 := by unfold high64; omega
      simpa using this
  rw [e] at h
  exact h

theorem keepFour {w0 a b : World} {p0 p1 p2 p3 : Addr} {v0 v1 v2 v3 : Value} (hb : Below a.heap.size a b) (h : a.cell? p0 = some v0 ∧ a.cell? p1 = some v1 ∧ a.cell? p2 = some v2 ∧ a.cell? p3 = some v3 ∧ Below w0.heap.size w0 a) :
    b.cell? p0 = some v0 ∧ b.cell? p1 = some v1 ∧ b.cell? p2 = some v2 ∧ b.cell? p3 = some v3 ∧ Below w0.heap.size w0 b := ⟨keepCell hb h.1, keepCell hb h.2.1, keepCell hb h.2.2.1, keepCell hb h.2.2.2.1, belowT h.2.2.2.2 hb⟩

set_option maxHeartbeats 1000000 in
theorem less_any (l r : Int) (v : Bool) (hv : decide (l < r) = v) (l1 : -85070591730234615865843651857942052864 ≤ l) (l2 : l ≤ 85070591730234615865843651857942052863) (r1 : -85070591730234615865843651857942052864 ≤ r) (r2 : r ≤ 85070591730234615865843651857942052863) (w : World) :
    Calls Tryz.prog 87 #[.agg #[.int .u64 (high64 l), .int .u64 (low64 l)], .agg #[.int .u64 (high64 r), .int .u64 (low64 r)]] w fun e w' => e = .returned (.bool v) ∧ Below w.heap.size w w' := by
  have BE : Hid (∀ w, Calls Tryz.prog 122 #[.agg #[.int .u64 (high64 (l + -r)), .int .u64 (low64 (l + -r))]] w fun e w' => e = .returned (.bool v) ∧ Below w.heap.size w w') :=
    below_any (l + -r) v (by rw [← hv]; congr 1; apply propext; omega) (by omega) (by omega)
  have TU : Hid (∀ w, Calls Tryz.prog 65 #[.agg #[.int .u64 (high64 r), .int .u64 (low64 r)]] w fun e w' => e = .returned (.agg #[.int .u64 (high64 (-r)), .int .u64 (low64 (-r))]) ∧ Below w.heap.size w w') := turned_any r
  have PU : Hid (∀ w, Calls Tryz.prog 64 #[.agg #[.int .u64 (high64 l), .int .u64 (low64 l)], .agg #[.int .u64 (high64 (-r)), .int .u64 (low64 (-r))]] w fun e w' => e = .returned (.agg #[.int .u64 (high64 (l + -r)), .int .u64 (low64 (l + -r))]) ∧ Below w.heap.size w w') := plus_any l (-r)
  clear hv l1 l2 r1 r2
  generalize high64 (l + -r) = A at *
  generalize low64 (l + -r) = B at *
  generalize high64 (-r) = C at *
  generalize low64 (-r) = D at *
  generalize high64 l = E at *
  generalize low64 l = F at *
  generalize high64 r = G at *
  generalize low64 r = H at *
  have s0 : ((w.alloc (.cells #[.int .u64 E, .int .u64 F] 107)).alloc (.cells #[.int .u64 G, .int .u64 H] 107)).drew.cell? ⟨w.heap.size, 0, none⟩ = some (.int .u64 E) := by go_simp
  have s1 : ((w.alloc (.cells #[.int .u64 E, .int .u64 F] 107)).alloc (.cells #[.int .u64 G, .int .u64 H] 107)).drew.cell? ⟨w.heap.size, 1, none⟩ = some (.int .u64 F) := by go_simp
  have s2 : ((w.alloc (.cells #[.int .u64 E, .int .u64 F] 107)).alloc (.cells #[.int .u64 G, .int .u64 H] 107)).drew.cell? ⟨w.heap.size + 1, 0, none⟩ = some (.int .u64 G) := by go_simp
  have s3 : ((w.alloc (.cells #[.int .u64 E, .int .u64 F] 107)).alloc (.cells #[.int .u64 G, .int .u64 H] 107)).drew.cell? ⟨w.heap.size + 1, 1, none⟩ = some (.int .u64 H) := by go_simp
  have hbw : Below w.heap.size w ((w.alloc (.cells #[.int .u64 E, .int .u64 F] 107)).alloc (.cells #[.int .u64 G, .int .u64 H] 107)).drew := (((Below.refl _ _).alloc (Nat.le_refl _) _).alloc (by simp) _).drew
  go_enter Tryz.func87, Tryz.ntmps87
  go_wp2_with fail
  go_region_held3 (fun w' => w'.cell? ⟨w.heap.size, 0, none⟩ = some (.int .u64 E) ∧ w'.cell? ⟨w.heap.size, 1, none⟩ = some (.int .u64 F) ∧ w'.cell? ⟨w.heap.size + 1, 0, none⟩ = some (.int .u64 G) ∧ w'.cell? ⟨w.heap.size + 1, 1, none⟩ = some (.int .u64 H) ∧ Below w.heap.size w w') (first | exact ⟨s0, s1, s2, s3, hbw⟩ | exact keepFour hb (by assumption))
    (first | (go_at_call 65; refine (TU.out _).mono ?_; rintro e w' ⟨rfl, hb⟩) | (go_at_call 64; refine (PU.out _).mono ?_; rintro e w' ⟨rfl, hb⟩) | (go_at_call 122; refine (BE.out _).mono ?_; rintro e w' ⟨rfl, hb⟩))
  rename_i hS
  go_wp2
  go_ret
  exact ⟨rfl, hS.2.2.2.2⟩

/-- A product of two numbers of 62 bits. -/
theorem prod_side {a b : Int} (a1 : -4611686018427387904 ≤ a) (a2 : a ≤ 4611686018427387904) (b1 : -4611686018427387904 ≤ b) (b2 : b ≤ 4611686018427387904) :
    -85070591730234615865843651857942052864 ≤ a * b ∧ a * b ≤ 85070591730234615865843651857942052863 := by
  have h : (a * b).natAbs ≤ 4611686018427387904 * 4611686018427387904 := by
    rw [Int.natAbs_mul]; exact Nat.mul_le_mul (by omega) (by omega)
  omega

end Go.Proofs.YtdklpgphmoaniaaGreatDoor
