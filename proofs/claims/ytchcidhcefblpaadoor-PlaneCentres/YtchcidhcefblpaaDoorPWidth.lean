/-
  What package plane's Width tells, for any size, in whatever memory; and Awake, the fixed part of every law over package plane, answers true.
-/
import Derived.Test.YtchcidhcefblpaaDoorPNear
namespace Go.Proofs.YtchcidhcefblpaaDoor
open Go.RowKit

set_option maxHeartbeats 1000000 in
theorem pwidth_core (r X Y N : Int) (N1 : 1 ≤ N) (N2 : N ≤ 13841287201)
    (ST : ∀ w, Calls Tryd.prog 19 #[.int .i64 r] w fun e w' => e = .returned (.tuple #[.agg #[.int .i64 X, .int .i64 Y], .bool true]) ∧ Below w.heap.size w w')
    (NO : ∀ w, Calls Tryd.prog 22 #[.agg #[.int .i64 X, .int .i64 Y]] w fun e w' => e = .returned (.tuple #[.int .i64 N, .bool true]) ∧ Below w.heap.size w w') (w : World) :
    Calls Tryd.prog 12 #[.int .i64 r] w fun e w' => e = .returned (.tuple #[.int .i64 (169 * N), .bool true]) ∧ Below w.heap.size w w' := by
  replace ST : Hid _ := ST
  replace NO : Hid _ := NO
  go_enter Tryd.func12, Tryd.ntmps12
  go_wp2_with fail
  refine (ST.out _).mono ?_
  rintro e w1 ⟨rfl, d1⟩
  have c1 : Below w.heap.size w w1 := Below.trans (by go_grown) (d1.mono (by simp; try omega))
  have hB := c1
  clear c1 d1
  go_wp2_with fail
  refine (NO.out _).mono ?_
  rintro e w2 ⟨rfl, d2⟩
  have c2 : Below w1.heap.size w1 w2 := Below.trans (by go_grown) (d2.mono (by simp; try omega))
  replace hB := belowT hB c2
  clear c2 d2
  go_wp2
  go_ret2
  exact ⟨rfl, hB⟩
set_option maxHeartbeats 1000000 in
theorem pwidth_bad (r X Y : Int)
    (ST : ∀ w, Calls Tryd.prog 19 #[.int .i64 r] w fun e w' => e = .returned (.tuple #[.agg #[.int .i64 X, .int .i64 Y], .bool false]) ∧ Below w.heap.size w w') (w : World) :
    Calls Tryd.prog 12 #[.int .i64 r] w fun e w' => e = .returned (.tuple #[.int .i64 0, .bool false]) ∧ Below w.heap.size w w' := by
  replace ST : Hid _ := ST
  go_enter Tryd.func12, Tryd.ntmps12
  go_wp2_with fail
  refine (ST.out _).mono ?_
  rintro e w1 ⟨rfl, d1⟩
  have c1 : Below w.heap.size w w1 := Below.trans (by go_grown) (d1.mono (by simp; try omega))
  have hB := c1
  clear c1 d1
  go_wp2
  go_ret2
  exact ⟨rfl, hB.alloc (by have := hB.size; omega) _⟩
/-- WIDTH: 169 times seven, as often with itself as the size is above the finest. -/
theorem pwidth_yes (r : Int) (K : Nat) (hK : K ≤ 12) (hr : 12 - r = (K : Int)) (w : World) :
    Calls Tryd.prog 12 #[.int .i64 r] w fun e w' => e = .returned (.tuple #[.int .i64 (169 * sev K), .bool true]) ∧ Below w.heap.size w w' := by
  have hs := sev_box hK
  have hb := bet_small hK
  exact pwidth_core r _ _ (sev K) hs.1 hs.2 (pstep_yes r K hK hr) (enorm_small _ _ _ rfl (by omega) (by omega) (by omega) (by omega) (by omega)) w
theorem pwidth_no (r : Int) (h : ¬ (0 ≤ r ∧ r ≤ 12)) (w : World) :
    Calls Tryd.prog 12 #[.int .i64 r] w fun e w' => e = .returned (.tuple #[.int .i64 0, .bool false]) ∧ Below w.heap.size w w' :=
  pwidth_bad r _ _ (pstep_no r h) w

theorem aw3near (w : World) : Calls Tryd.prog 7 #[.int .i64 52, .int .i64 0, .int .i64 12] w fun e w' => e = .returned (.tuple #[.agg #[.int .i64 1, .int .i64 0], .bool true]) ∧ Below w.heap.size w w' := by
  refine (pnear_see 52 0 12 0 (by omega) (by omega) ⟨by omega, by omega, by omega, by omega⟩ w).mono ?_
  rintro e w' ⟨⟨a, b, rfl, hn⟩, hb⟩
  have h0 := near_self (K := 0) (by omega) 1 0
  obtain ⟨rfl, rfl⟩ := nearest_one hn h0
  exact ⟨rfl, hb⟩
theorem aw3width (w : World) : Calls Tryd.prog 12 #[.int .i64 12] w fun e w' => e = .returned (.tuple #[.int .i64 169, .bool true]) ∧ Below w.heap.size w w' := pwidth_yes 12 0 (by omega) (by omega) w
theorem aw3ok (w : World) : Calls Tryd.prog 8 #[.int .i64 0, .int .i64 1073741823] w fun e w' => e = .returned (.bool true) ∧ w' = w := pok_any _ _ w
theorem aw3no (w : World) : Calls Tryd.prog 8 #[.int .i64 0, .int .i64 1073741824] w fun e w' => e = .returned (.bool false) ∧ w' = w := pok_any _ _ w

set_option maxHeartbeats 1000000 in
theorem awake3 (w : World) :
    Calls Tryd.prog 9 #[] w fun e w' => e = .returned (.bool true) ∧ Below w.heap.size w w' := by
  go_enter Tryd.func9, Tryd.ntmps9
  go_wp2_with fail
  refine (aw3near _).mono ?_
  rintro e w1 ⟨rfl, d1⟩
  have c1 : Below w.heap.size w w1 := Below.trans (by go_grown) (d1.mono (by simp; try omega))
  have hB := c1
  clear c1 d1
  go_wp2_with fail
  refine (aw3width _).mono ?_
  rintro e w2 ⟨rfl, d2⟩
  have c2 : Below w1.heap.size w1 w2 := Below.trans (by go_grown) (d2.mono (by simp; try omega))
  have z0 : w2.cell? ⟨w1.heap.size, 0, none⟩ = some (.int .i64 1) := keepCell d2 (by go_simp)
  have qz0 := World.block_lt_of_cell? _ _ z0
  have z1 : w2.cell? ⟨w1.heap.size, 1, none⟩ = some (.int .i64 0) := keepCell d2 (by go_simp)
  replace hB := belowT hB c2
  clear c2 d2
  go_wp2_with fail
  refine (aw3ok _).mono ?_
  rintro e w3 ⟨rfl, rfl⟩
  go_wp2_with fail
  refine (aw3no _).mono ?_
  rintro e w4 ⟨rfl, rfl⟩
  go_wp2
  go_ret
  exact ⟨rfl, hB⟩
end Go.Proofs.YtchcidhcefblpaaDoor
