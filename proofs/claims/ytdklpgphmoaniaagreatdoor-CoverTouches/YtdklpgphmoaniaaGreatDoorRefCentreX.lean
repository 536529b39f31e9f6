/-
  What the document's own Centre tells, for any number of the lattice and any size, in whatever memory.
-/
import Derived.Test.YtdklpgphmoaniaaGreatDoorPCentreX
import Derived.Test.YtdklpgphmoaniaaGreatDoorProg
import Derived.Handy
import Derived.Deep.QuietTactic
import Derived.WalkSpells
import Derived.WalkLawsBesides
import Derived.BigQuiet
import Derived.PlainAid
import Derived.Deep.RegionWith
import Derived.Laws.BitsAllLaws
import Derived.Deep.RegionHeld3
namespace Go.Proofs.YtdklpgphmoaniaaGreatDoor
open Go.RowKit

set_option maxHeartbeats 1000000 in
theorem rcentre_r1 (a b r : Int) (h : r < 0) (w : World) :
    Calls Tryz.prog 10 #[.agg #[.int .i64 a, .int .i64 b], .int .i64 r] w fun e w' => e = .returned (.tuple #[.int .i64 0, .int .i64 0, .bool false]) ∧ Below w.heap.size w w' := by
  go_enter Tryz.func10, Tryz.ntmps10
  go_wp2
  go_ret3
  exact ⟨rfl, by go_grown⟩

set_option maxHeartbeats 1000000 in
theorem rcentre_r2 (a b r : Int) (h0 : decide (r < 0) = false) (h : 12 < r) (w : World) :
    Calls Tryz.prog 10 #[.agg #[.int .i64 a, .int .i64 b], .int .i64 r] w fun e w' => e = .returned (.tuple #[.int .i64 0, .int .i64 0, .bool false]) ∧ Below w.heap.size w w' := by
  go_enter Tryz.func10, Tryz.ntmps10
  go_wp2
  go_ret3
  exact ⟨rfl, by go_grown⟩

set_option maxHeartbeats 1000000 in
theorem rcentre_a1 (a b r : Int) (h0 : decide (r < 0) = false) (h1 : decide (12 < r) = false) (h : a < -1073741824) (w : World) :
    Calls Tryz.prog 10 #[.agg #[.int .i64 a, .int .i64 b], .int .i64 r] w fun e w' => e = .returned (.tuple #[.int .i64 0, .int .i64 0, .bool false]) ∧ Below w.heap.size w w' := by
  go_enter Tryz.func10, Tryz.ntmps10
  go_wp2
  go_ret3
  exact ⟨rfl, by go_grown⟩

set_option maxHeartbeats 1000000 in
theorem rcentre_a2 (a b r : Int) (h0 : decide (r < 0) = false) (h1 : decide (12 < r) = false) (h2 : decide (a < -1073741824) = false) (h : 1073741824 < a) (w : World) :
    Calls Tryz.prog 10 #[.agg #[.int .i64 a, .int .i64 b], .int .i64 r] w fun e w' => e = .returned (.tuple #[.int .i64 0, .int .i64 0, .bool false]) ∧ Below w.heap.size w w' := by
  go_enter Tryz.func10, Tryz.ntmps10
  go_wp2
  go_ret3
  exact ⟨rfl, by go_grown⟩

set_option maxHeartbeats 1000000 in
theorem rcentre_b1 (a b r : Int) (h0 : decide (r < 0) = false) (h1 : decide (12 < r) = false) (h2 : decide (a < -1073741824) = false) (h3 : decide (1073741824 < a) = false) (h : b < -1073741824) (w : World) :
    Calls Tryz.prog 10 #[.agg #[.int .i64 a, .int .i64 b], .int .i64 r] w fun e w' => e = .returned (.tuple #[.int .i64 0, .int .i64 0, .bool false]) ∧ Below w.heap.size w w' := by
  go_enter Tryz.func10, Tryz.ntmps10
  go_wp2
  go_ret3
  exact ⟨rfl, by go_grown⟩

set_option maxHeartbeats 1000000 in
theorem rcentre_b2 (a b r : Int) (h0 : decide (r < 0) = false) (h1 : decide (12 < r) = false) (h2 : decide (a < -1073741824) = false) (h3 : decide (1073741824 < a) = false) (h4 : decide (b < -1073741824) = false) (h : 1073741824 < b) (w : World) :
    Calls Tryz.prog 10 #[.agg #[.int .i64 a, .int .i64 b], .int .i64 r] w fun e w' => e = .returned (.tuple #[.int .i64 0, .int .i64 0, .bool false]) ∧ Below w.heap.size w w' := by
  go_enter Tryz.func10, Tryz.ntmps10
  go_wp2
  go_ret3
  exact ⟨rfl, by go_grown⟩

theorem rcentre_no (a b r : Int) (h : ¬ ((0 ≤ r ∧ r ≤ 12) ∧ In30 a ∧ In30 b)) (w : World) :
    Calls Tryz.prog 10 #[.agg #[.int .i64 a, .int .i64 b], .int .i64 r] w fun e w' => e = .returned (.tuple #[.int .i64 0, .int .i64 0, .bool false]) ∧ Below w.heap.size w w' := by
  unfold In30 at h
  by_cases h0 : r < 0
  · exact rcentre_r1 a b r h0 w
  by_cases h1 : 12 < r
  · exact rcentre_r2 a b r (df h0) h1 w
  by_cases h2 : a < -1073741824
  · exact rcentre_a1 a b r (df h0) (df h1) h2 w
  by_cases h3 : 1073741824 < a
  · exact rcentre_a2 a b r (df h0) (df h1) (df h2) h3 w
  by_cases h4 : b < -1073741824
  · exact rcentre_b1 a b r (df h0) (df h1) (df h2) (df h3) h4 w
  · exact rcentre_b2 a b r (df h0) (df h1) (df h2) (df h3) (df h4) (by omega) w

set_option maxHeartbeats 2000000 in
theorem rcentre_core (a b r X Y A B : Int) (r1 : 0 ≤ r) (r2 : r ≤ 12) (a1 : -1073741824 ≤ a) (a2 : a ≤ 1073741824) (b1 : -1073741824 ≤ b) (b2 : b ≤ 1073741824) (A1 : -9007199254740992 ≤ A) (A2 : A ≤ 9007199254740992) (B1 : -9007199254740992 ≤ B) (B2 : B ≤ 9007199254740992)
    (BE : ∀ w, Calls Tryz.prog 32 #[.int .i64 (12 - r)] w fun e w' => e = .returned (.tuple #[.agg #[.int .i64 X, .int .i64 Y], .bool true]) ∧ Below w.heap.size w w')
    (MU : ∀ w, Calls Tryz.prog 33 #[.agg #[.int .i64 a, .int .i64 b], .agg #[.int .i64 X, .int .i64 Y]] w fun e w' => e = .returned (.tuple #[.agg #[.int .i64 A, .int .i64 B], .bool true]) ∧ Below w.heap.size w w') (w : World) :
    Calls Tryz.prog 10 #[.agg #[.int .i64 a, .int .i64 b], .int .i64 r] w fun e w' => e = .returned (.tuple #[.int .i64 (52 * A + 26 * B), .int .i64 (45 * B), .bool true]) ∧ Below w.heap.size w w' := by
  replace BE : Hid _ := BE
  replace MU : Hid _ := MU
  go_enter Tryz.func10, Tryz.ntmps10
  go_wp2_with fail
  refine (BE.out _).mono ?_
  rintro e w1 ⟨rfl, d1⟩
  have c1 : Below w.heap.size w w1 := Below.trans (by go_grown) (d1.mono (by simp; try omega))
  have p0 : w1.cell? ⟨w.heap.size, 0, none⟩ = some (.int .i64 a) := keepCell d1 (by go_simp)
  have qp0 := World.block_lt_of_cell? _ _ p0
  have p1 : w1.cell? ⟨w.heap.size, 1, none⟩ = some (.int .i64 b) := keepCell d1 (by go_simp)
  have hB := c1
  clear c1 d1
  go_wp2_with fail
  refine (MU.out _).mono ?_
  rintro e w2 ⟨rfl, d2⟩
  have c2 : Below w1.heap.size w1 w2 := Below.trans (by go_grown) (d2.mono (by simp; try omega))
  replace p0 := keepCell c2 p0
  replace qp0 := World.block_lt_of_cell? _ _ p0
  replace p1 := keepCell c2 p1
  replace hB := belowT hB c2
  clear c2 d2
  have hB' := belowT hB (allocB w2 (.cells #[.int .i64 A, .int .i64 B] 23))
  go_wp2
  go_quiet (fail)
  go_wp2
  go_ret3
  exact ⟨rfl, belowN hB' _⟩

/-- A product with Beta's power, as the document's own answer has it. -/
theorem rmul_ct {K : Nat} {a b : Int} (hK : K ≤ 12) (ha : -4294967296 ≤ a ∧ a ≤ 4294967296) (hb : -4294967296 ≤ b ∧ b ≤ 4294967296) (w : World) :
    Calls Tryz.prog 33 #[.agg #[.int .i64 a, .int .i64 b], .agg #[.int .i64 (bet K).1, .int .i64 (bet K).2]] w fun e w' => e = .returned (.tuple #[.agg #[.int .i64 (ctA K a b), .int .i64 (ctB K a b)], .bool true]) ∧ Below w.heap.size w w' := by
  have hs := bet_small hK
  have hc := ct_box hK ha hb
  have eA : mulA a b (bet K).1 (bet K).2 = ctA K a b := by unfold mulA ctA; grind
  have eB : mulB a b (bet K).1 (bet K).2 = ctB K a b := by unfold mulB ctB; grind
  have MU := refmul_yes a b (bet K).1 (bet K).2 (by omega) (by omega) (by omega) (by omega) (by omega) (by omega) (by omega) (by omega) (by rw [eA]; exact fits_mk ⟨by omega, by omega⟩) (by rw [eB]; exact fits_mk ⟨by omega, by omega⟩) w
  rw [eA, eB] at MU
  exact MU

theorem rcentre_yes (a b r : Int) (K : Nat) (hK : K ≤ 12) (hr : 12 - r = (K : Int)) (ha : In30 a) (hb : In30 b) (w : World) :
    Calls Tryz.prog 10 #[.agg #[.int .i64 a, .int .i64 b], .int .i64 r] w fun e w' => e = .returned (.tuple #[.int .i64 (poX K a b), .int .i64 (poY K a b), .bool true]) ∧ Below w.heap.size w w' := by
  obtain ⟨a1, a2⟩ := ha
  obtain ⟨b1, b2⟩ := hb
  have hc := ct_box (a := a) (b := b) hK (by omega) (by omega)
  exact rcentre_core a b r _ _ (ctA K a b) (ctB K a b) (by omega) (by omega) a1 a2 b1 b2 (by omega) (by omega) (by omega) (by omega) (by rw [hr]; exact refbeta_yes K (by omega)) (rmul_ct hK (by omega) (by omega)) w

end Go.Proofs.YtdklpgphmoaniaaGreatDoor
