/-
  What package cell's child tells: the number of a cell's child, in whatever memory where the table of Units holds what its text lays.
-/
import Derived.Test.YtlipbdiijjfheaaGreatDoorCPart
import Derived.Deep.RegionWith
namespace Go.Proofs.YtlipbdiijjfheaaGreatDoor
open Go.RowKit

set_option maxHeartbeats 2000000 in
theorem cchild_core (a b d X Y A B U V : Int)
    (BE : ∀ w, Calls Tryz.prog 79 #[.int .i64 1] w fun e w' => e = .returned (.tuple #[.agg #[.int .i64 2, .int .i64 1], .bool true]) ∧ Below w.heap.size w w')
    (MU : ∀ w, Calls Tryz.prog 80 #[.agg #[.int .i64 2, .int .i64 1], .agg #[.int .i64 a, .int .i64 b]] w fun x w' => x = .returned (.tuple #[.agg #[.int .i64 A, .int .i64 B], .bool true]) ∧ Below w.heap.size w w')
    (PA : ∀ w, Uni w → Calls Tryz.prog 82 #[.int .i64 d] w fun e w' => e = .returned (.agg #[.int .i64 X, .int .i64 Y]) ∧ Below w.heap.size w w')
    (AD : ∀ w, Calls Tryz.prog 81 #[.agg #[.int .i64 A, .int .i64 B], .agg #[.int .i64 X, .int .i64 Y]] w fun e w' => e = .returned (.tuple #[.agg #[.int .i64 U, .int .i64 V], .bool true]) ∧ Below w.heap.size w w')
    (w : World) (hU : Uni w) :
    Calls Tryz.prog 54 #[.agg #[.int .i64 a, .int .i64 b], .int .i64 d] w fun e w' => e = .returned (.agg #[.int .i64 U, .int .i64 V]) ∧ Below w.heap.size w w' := by
  replace BE : Hid _ := BE
  replace MU : Hid _ := MU
  replace PA : Hid _ := PA
  replace AD : Hid _ := AD
  have hU0 : Hid (Uni w) := hU
  clear hU
  go_enter Tryz.func54, Tryz.ntmps54
  go_wp2_with fail
  refine (BE.out _).mono ?_
  rintro e w1 ⟨rfl, d1⟩
  have c1 : Below w.heap.size w w1 := Below.trans (by go_grown) (d1.mono (by simp; try omega))
  have z0 : w1.cell? ⟨w.heap.size, 0, none⟩ = some (.int .i64 a) := keepCell d1 (by go_simp)
  have qz0 := World.block_lt_of_cell? _ _ z0
  have z1 : w1.cell? ⟨w.heap.size, 1, none⟩ = some (.int .i64 b) := keepCell d1 (by go_simp)
  have r0 : w1.cell? ⟨w.heap.size + 1, 0, none⟩ = some (.int .i64 0) := keepCell d1 (by go_simp)
  have fr0 : w1.frozen? ⟨w.heap.size + 1, 0, none⟩ = false := keepFrozen (v := .int .i64 0) d1 (by go_simp) (by go_simp)
  have qr0 := World.block_lt_of_cell? _ _ r0
  have r1 : w1.cell? ⟨w.heap.size + 1, 1, none⟩ = some (.int .i64 0) := keepCell d1 (by go_simp)
  have fr1 : w1.frozen? ⟨w.heap.size + 1, 1, none⟩ = false := keepFrozen (v := .int .i64 0) d1 (by go_simp) (by go_simp)
  have hB := c1
  clear c1 d1
  go_wp2_with fail
  refine (MU.out _).mono ?_
  rintro e w2 ⟨rfl, d2⟩
  have c2 : Below w1.heap.size w1 w2 := Below.trans (by go_grown) (d2.mono (by simp; try omega))
  replace z0 := keepCell c2 z0
  replace qz0 := World.block_lt_of_cell? _ _ z0
  replace z1 := keepCell c2 z1
  replace fr0 := keepFrozen c2 r0 fr0
  replace r0 := keepCell c2 r0
  replace qr0 := World.block_lt_of_cell? _ _ r0
  replace fr1 := keepFrozen c2 r1 fr1
  replace r1 := keepCell c2 r1
  replace hB := belowT hB c2
  clear c2 d2
  have l1 : w.heap.size + 1 < w2.heap.size := qr0
  have hx : Below w2.heap.size w2 (w2.alloc (.cells #[.int .i64 A, .int .i64 B] 32)).drew := (allocB _ _).drew
  have a0 : (w2.alloc (.cells #[.int .i64 A, .int .i64 B] 32)).drew.cell? ⟨w2.heap.size, 0, none⟩ = some (.int .i64 A) := by go_simp
  have a1 : (w2.alloc (.cells #[.int .i64 A, .int .i64 B] 32)).drew.cell? ⟨w2.heap.size, 1, none⟩ = some (.int .i64 B) := by go_simp
  have f0 : (w2.alloc (.cells #[.int .i64 A, .int .i64 B] 32)).drew.frozen? ⟨w2.heap.size, 0, none⟩ = false := by go_simp
  have f1 : (w2.alloc (.cells #[.int .i64 A, .int .i64 B] 32)).drew.frozen? ⟨w2.heap.size, 1, none⟩ = false := by go_simp
  have hU2 : Hid (Uni (w2.alloc (.cells #[.int .i64 A, .int .i64 B] 32)).drew) := hU0.out.below (belowT hB hx)
  go_wp2_with fail
  go_cut [] from 20 (fun wx => wx.cell? ⟨w2.heap.size, 0, none⟩ = some (.int .i64 U) ∧ wx.cell? ⟨w2.heap.size, 1, none⟩ = some (.int .i64 V) ∧ Below w2.heap.size w2 wx)
  case first =>
    go_region_with (first | (go_at_call 82; refine (PA.out _ hU2.out).mono ?_; rintro e w3 ⟨rfl, hb⟩; have b0 := keepCell hb a0; have b1 := keepCell hb a1; have g0 := keepFrozen hb a0 f0; have g1 := keepFrozen hb a1 f1; have hy := hx.trans (hb.mono hx.size)) | (go_at_call 81; refine (AD.out _).mono ?_; rintro e w4 ⟨rfl, hb2⟩; have d0 := keepCell hb2 b0; have d1 := keepCell hb2 b1; have h0 := keepFrozen hb2 b0 g0; have h1 := keepFrozen hb2 b1 g1; have hz := hy.trans (hb2.mono hy.size)))
    all_goals
      go_wp2_with fail
      go_meet
      obtain ⟨k0, k1⟩ := two_stores (u := .int .i64 U) (v := .int .i64 V) d0 d1
      exact ⟨k0, k1, (hz.setCell (Nat.le_refl _) _).setCell (Nat.le_refl _) _⟩
  case rest =>
    obtain ⟨t0, t1, hw⟩ := hcut
    have t2 : w.heap.size + 1 < wc.heap.size := Nat.lt_of_lt_of_le l1 hw.size
    replace fr0 := keepFrozen hw r0 fr0
    replace fr1 := keepFrozen hw r1 fr1
    replace r0 := keepCell hw r0
    replace r1 := keepCell hw r1
    replace hB := belowT hB hw
    clear hw hx a0 a1 f0 f1 hU2 hU0
    obtain ⟨g0, g1⟩ := two_stores (u := .int .i64 U) (v := .int .i64 V) r0 r1
    go_wp2
    exact bodyPost_ret (v := .agg #[.int .i64 U, .int .i64 V]) (by simp [results, Tryz.results54, go_sem, g0, g1]) rfl ⟨rfl, (hB.setCell (by simp) _).setCell (by simp) _⟩

/-- CHILD: the number of the child with a digit. -/
theorem cchild_any (a b d : Int) (ha : -500000000 ≤ a ∧ a ≤ 500000000) (hb : -500000000 ≤ b ∧ b ≤ 500000000) (d0 : 0 ≤ d) (d1 : d ≤ 6) (w : World) (hU : Uni w) :
    Calls Tryz.prog 54 #[.agg #[.int .i64 a, .int .i64 b], .int .i64 d] w fun e w' => e = .returned (.agg #[.int .i64 (chA d a b), .int .i64 (chB d a b)]) ∧ Below w.heap.size w w' := by
  have hp := pt_box d
  have eA : chA d a b = 2 * a - b + ptA d := rfl
  have eB : chB d a b = a + 3 * b + ptB d := rfl
  exact cchild_core a b d (ptA d) (ptB d) (2 * a - b) (a + 3 * b) _ _ (ebeta_yes 1 (by omega))
    (emul_small _ _ _ _ _ _ (by omega) (by omega) (by omega) (by omega) (by omega) (by omega) (by omega) (by omega) (by omega) (by omega) (by omega) (by omega) (by omega) (by omega))
    (cpart_any d d0 d1)
    (eadd_small _ _ _ _ _ _ rfl rfl (by omega) (by omega) (by omega) (by omega) (by omega) (by omega) (by omega) (by omega)) w hU
end Go.Proofs.YtlipbdiijjfheaaGreatDoor
