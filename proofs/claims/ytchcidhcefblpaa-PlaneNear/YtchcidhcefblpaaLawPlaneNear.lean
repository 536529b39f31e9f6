/-
  The law PlaneNear answers true for every two numbers and every size, in whatever memory: which centre is nearest is told as the document's own answer has it, or refused alike; so are Axial and Ok.
-/
import Derived.Test.YtchcidhcefblpaaPWidth
import Derived.Test.YtchcidhcefblpaaPPoint
import Derived.Test.YtchcidhcefblpaaRefNear
namespace Go.Proofs.Ytchcidhcefblpaa
open Go.RowKit

/-- Both answers are the same, of whatever numbers. -/
theorem near_both (x y r : Int) : ∃ (a b : Int) (ok : Bool), (∀ w, Calls Try.prog 12 #[.int .i64 x, .int .i64 y, .int .i64 r] w fun e w' => e = .returned (.tuple #[.agg #[.int .i64 a, .int .i64 b], .bool ok]) ∧ Below w.heap.size w w') ∧
    (∀ w, Calls Try.prog 15 #[.int .i64 x, .int .i64 y, .int .i64 r] w fun e w' => e = .returned (.tuple #[.agg #[.int .i64 a, .int .i64 b], .bool ok]) ∧ Below w.heap.size w w') := by
  by_cases h : InW x y ∧ 0 ≤ r ∧ r ≤ 12
  · obtain ⟨hw, r1, r2⟩ := h
    obtain ⟨a, b, hn⟩ := nearest_some (dvK_box (K := (12 - r).toNat) (by omega)).1 (nuA (12 - r).toNat x y) (nuB (12 - r).toNat x y)
    exact ⟨a, b, true, pnear_at x y r _ (by omega) (by omega) hw a b hn, rnear_at x y r _ (by omega) (by omega) hw a b hn⟩
  · exact ⟨0, 0, false, pnear_no x y r h, rnear_no x y r h⟩

set_option maxHeartbeats 4000000 in
set_option maxRecDepth 20000 in
theorem planeNear_walk (x0 y0 r0 : Int) (w : World) :
    Calls Try.prog 5 #[.int .i64 x0, .int .i64 y0, .int .i64 r0] w fun e w' => e = .returned (.bool true) ∧ Below w.heap.size w w' := by
  obtain ⟨u, v, hw, PT⟩ := point_any x0 y0
  replace PT : Hid _ := PT
  clear hw
  go_enter Try.func5, Try.ntmps5
  go_wp2_with fail
  refine (PT.out _).mono ?_
  rintro e w1 ⟨rfl, d1⟩
  have c1 : Below w.heap.size w w1 := Below.trans (by go_grown) (d1.mono (by simp; try omega))
  have hB := c1
  clear c1 d1
  go_wp2_with fail
  go_loopw [0, 1, 2, 9] (fun v0 v1 v2 v9 wr => ∃ (x y r : Int) (k : Nat), k ≤ 2 ∧ v0 = .int .i64 x ∧ v1 = .int .i64 y ∧ v2 = .int .i64 r ∧ v9 = .int .i64 (k : Int) ∧ Below w.heap.size w wr) (fun _ _ _ v9 _ => 2 - (intOf v9).toNat)
  case atStart => exact ⟨x0, y0, r0, 0, by omega, rfl, rfl, rfl, rfl, hB⟩
  case round =>
    clear hB
    obtain ⟨x, y, r, k, hk, rfl, rfl, rfl, rfl, hB⟩ := hrel
    by_cases hlt : k < 2
    · obtain ⟨a, b, ok, N1, N2⟩ := near_both x y r
      obtain ⟨t, s, K, ht, hs, t1, t2, -, -⟩ := size13 r
      replace N1 : Hid _ := N1
      replace N2 : Hid _ := N2
      cases hi : inWB x y with
      | true =>
        obtain ⟨x1, x2, y1, y2⟩ := id (inWB_yes hi)
        have AX : Hid _ := paxial_yes x y _ _ (inWB_yes hi) rfl rfl
        have WO : Hid _ := rworld_yes x y x1 x2 y1 y2
        have OK : Hid _ := pok_yes x y x1 x2 y1 y2
        clear hi
        go_wp2_with fail
        refine (N1.out _).mono ?_
        rintro e v1 ⟨rfl, d1⟩
        have c1 : Below wr.heap.size wr v1 := Below.trans (by go_grown) (d1.mono (by simp; try omega))
        replace hB := belowT hB c1
        clear c1 d1
        go_wp2_with fail
        refine (N2.out _).mono ?_
        rintro e v2 ⟨rfl, d2⟩
        have c2 : Below v1.heap.size v1 v2 := Below.trans (by go_grown) (d2.mono (by simp; try omega))
        have z0 : v2.cell? ⟨v1.heap.size, 0, none⟩ = some (.int .i64 a) := keepCell d2 (by go_simp)
        have qz0 := World.block_lt_of_cell? _ _ z0
        have z1 : v2.cell? ⟨v1.heap.size, 1, none⟩ = some (.int .i64 b) := keepCell d2 (by go_simp)
        replace hB := belowT hB c2
        clear c2 d2
        go_wp2_with fail
        refine (AX.out _).mono ?_
        rintro e v3 ⟨rfl, d3⟩
        have c3 : Below v2.heap.size v2 v3 := Below.trans (by go_grown) (d3.mono (by simp; try omega))
        replace z0 := keepCell c3 z0
        replace qz0 := World.block_lt_of_cell? _ _ z0
        replace z1 := keepCell c3 z1
        have q0 : v3.cell? ⟨v2.heap.size, 0, none⟩ = some (.int .i64 a) := keepCell d3 (by go_simp)
        have qq0 := World.block_lt_of_cell? _ _ q0
        have q1 : v3.cell? ⟨v2.heap.size, 1, none⟩ = some (.int .i64 b) := keepCell d3 (by go_simp)
        replace hB := belowT hB c3
        clear c3 d3
        go_wp2_with fail
        refine (WO.out _).mono ?_
        rintro e v4 ⟨rfl, rfl⟩
        go_wp2_with fail
        refine (OK.out _).mono ?_
        rintro e v4 ⟨rfl, rfl⟩
        go_wp2
        go_roundw
        case rel => exact ⟨u, v, s, k + 1, by omega, rfl, rfl, rfl, by go_num, hB.alloc (by have := hB.size; omega) _⟩
        case measure => simp [intOf]; omega
      | false =>
        have AX : Hid _ := paxial_no x y hi
        have WO : Hid (∀ w, Calls Try.prog 17 #[.int .i64 x, .int .i64 y] w fun e w' => e = .returned (.bool false) ∧ w' = w) := fun w => by rw [← hi]; exact rworld_any x y w
        have OK : Hid (∀ w, Calls Try.prog 14 #[.int .i64 x, .int .i64 y] w fun e w' => e = .returned (.bool false) ∧ w' = w) := fun w => by rw [← hi]; exact pok_any x y w
        clear hi
        go_wp2_with fail
        refine (N1.out _).mono ?_
        rintro e v1 ⟨rfl, d1⟩
        have c1 : Below wr.heap.size wr v1 := Below.trans (by go_grown) (d1.mono (by simp; try omega))
        replace hB := belowT hB c1
        clear c1 d1
        go_wp2_with fail
        refine (N2.out _).mono ?_
        rintro e v2 ⟨rfl, d2⟩
        have c2 : Below v1.heap.size v1 v2 := Below.trans (by go_grown) (d2.mono (by simp; try omega))
        have z0 : v2.cell? ⟨v1.heap.size, 0, none⟩ = some (.int .i64 a) := keepCell d2 (by go_simp)
        have qz0 := World.block_lt_of_cell? _ _ z0
        have z1 : v2.cell? ⟨v1.heap.size, 1, none⟩ = some (.int .i64 b) := keepCell d2 (by go_simp)
        replace hB := belowT hB c2
        clear c2 d2
        go_wp2_with fail
        refine (AX.out _).mono ?_
        rintro e v3 ⟨rfl, d3⟩
        have c3 : Below v2.heap.size v2 v3 := Below.trans (by go_grown) (d3.mono (by simp; try omega))
        replace z0 := keepCell c3 z0
        replace qz0 := World.block_lt_of_cell? _ _ z0
        replace z1 := keepCell c3 z1
        have q0 : v3.cell? ⟨v2.heap.size, 0, none⟩ = some (.int .i64 a) := keepCell d3 (by go_simp)
        have qq0 := World.block_lt_of_cell? _ _ q0
        have q1 : v3.cell? ⟨v2.heap.size, 1, none⟩ = some (.int .i64 b) := keepCell d3 (by go_simp)
        replace hB := belowT hB c3
        clear c3 d3
        go_wp2_with fail
        refine (WO.out _).mono ?_
        rintro e v4 ⟨rfl, rfl⟩
        go_wp2_with fail
        refine (OK.out _).mono ?_
        rintro e v4 ⟨rfl, rfl⟩
        go_wp2
        go_roundw
        case rel => exact ⟨u, v, s, k + 1, by omega, rfl, rfl, rfl, by go_num, hB.alloc (by have := hB.size; omega) _⟩
        case measure => simp [intOf]; omega
    · obtain rfl : k = 2 := by omega
      go_wp2_with fail
      refine (awake3 _).mono ?_
      rintro e v1 ⟨rfl, d1⟩
      have c1 : Below wr.heap.size wr v1 := Below.trans (by go_grown) (d1.mono (by simp; try omega))
      replace hB := belowT hB c1
      clear c1 d1
      go_wp2
      go_ret
      exact ⟨rfl, hB⟩

end Go.Proofs.Ytchcidhcefblpaa
