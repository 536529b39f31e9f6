/-
  The law IdentWords answers true for every cell and every three numbers, in whatever memory where the tables hold what their texts lay: a cell's word is that which the document says, and is read again; a cell that may not be has none.
-/
import Derived.Test.YtlipbdiijjfheaaGreatDoorRWord
import Derived.Test.YtlipbdiijjfheaaGreatDoorICell
import Derived.Test.YtlipbdiijjfheaaGreatDoorIAwake
namespace Go.Proofs.YtlipbdiijjfheaaGreatDoor
open Go.RowKit

set_option maxHeartbeats 16000000 in
set_option maxRecDepth 20000 in
theorem identWords_walk (R0 A0 B0 x y r : Int) (w : World) (hT : Five w) :
    Calls Tryz.prog 6 #[.agg #[.int .i64 R0, .int .i64 A0, .int .i64 B0], .int .i64 x, .int .i64 y, .int .i64 r] w fun e w' => e = .returned (.bool true) ∧ Below w.heap.size w w' := by
  obtain ⟨sz, _, _, SO⟩ := csome_any x y r
  replace SO : Hid _ := SO
  have hT0 : Hid (Five w) := hT
  clear hT
  go_enter Tryz.func6, Tryz.ntmps6
  go_wp2_with fail
  go_loopw [9] (fun v9 wr => ∃ (k : Nat) (R A B : Int), k ≤ 2 ∧ v9 = .int .i64 (k : Int) ∧ wr.cell? ⟨w.heap.size, 0, none⟩ = some (.int .i64 R) ∧ wr.cell? ⟨w.heap.size, 1, none⟩ = some (.int .i64 A) ∧ wr.cell? ⟨w.heap.size, 2, none⟩ = some (.int .i64 B) ∧ wr.frozen? ⟨w.heap.size, 0, none⟩ = false ∧ wr.frozen? ⟨w.heap.size, 1, none⟩ = false ∧ wr.frozen? ⟨w.heap.size, 2, none⟩ = false ∧ Below w.heap.size w wr) (fun v9 _ => 2 - (intOf v9).toNat)
  case atStart => exact ⟨0, R0, A0, B0, by omega, rfl, by go_simp, by go_simp, by go_simp, by go_simp, by go_simp, by go_simp, by go_grown⟩
  case round =>
    obtain ⟨k, R, A, B, hk, rfl, z0, z1, z2, fz0, fz1, fz2, hB⟩ := hrel
    by_cases hlt : k < 2
    · have kb : (k : Int) < 2 := by omega
      by_cases hO : Ok4 R A B
      · obtain ⟨n, rfl⟩ := Int.eq_ofNat_of_zero_le hO.1
        have hp := word_parts hO
        have hcw := cell_word hO
        have hwb := whole_box hp.1
        have O1 : Hid _ := iof_yes n A B hO
        have W1 : Hid _ := rword_yes n A B hO
        have C1 : Hid (∀ w, Tabs w → Calls Tryz.prog 14 #[.int .u64 (wordOf n A B)] w fun e w' => e = .returned (.tuple #[.agg #[.int .i64 (n : Int), .int .i64 A, .int .i64 B], .int .i64 0]) ∧ Below w.heap.size w w') := fun w hT => by
          have := icell_yes _ hp.1 w hT
          rwa [hp.2.1, hcw.1, hcw.2] at this
        have K1 : Hid (∀ w, Calls Tryz.prog 12 #[.int .u64 (wordOf n A B)] w fun e w' => e = .returned (.bool true) ∧ Below w.heap.size w w') := iok _ ⟨by omega, by omega⟩ true (by simp [hp.1])
        have R1 : Hid (∀ w, Calls Tryz.prog 10 #[.int .u64 (wordOf n A B)] w fun e w' => e = .returned (.int .i64 (n : Int)) ∧ Below w.heap.size w w') := fun w => by
          have := ires_yes _ hp.1 w
          rwa [hp.2.1] at this
        clear hp hcw hwb hO
        generalize wordOf n A B = V at *
        have qz0 := World.block_lt_of_cell? _ _ z0
        go_wp2_with fail
        refine (O1.out _ ?_).mono ?_
        · exact hT0.out.1.below (belowT hB (by go_grown))
        rintro e v1 ⟨rfl, d1⟩
        have c1 : Below wr.heap.size wr v1 := Below.trans (by go_grown) (d1.mono (by simp; try omega))
        replace fz0 := keepFrozen c1 z0 fz0
        replace z0 := keepCell c1 z0
        replace qz0 := World.block_lt_of_cell? _ _ z0
        replace fz1 := keepFrozen c1 z1 fz1
        replace z1 := keepCell c1 z1
        replace fz2 := keepFrozen c1 z2 fz2
        replace z2 := keepCell c1 z2
        replace hB := belowT hB c1
        clear c1 d1
        go_wp2_with fail
        refine (W1.out _).mono ?_
        rintro e v2 ⟨rfl, d2⟩
        have c2 : Below v1.heap.size v1 v2 := Below.trans (by go_grown) (d2.mono (by simp; try omega))
        replace fz0 := keepFrozen c2 z0 fz0
        replace z0 := keepCell c2 z0
        replace qz0 := World.block_lt_of_cell? _ _ z0
        replace fz1 := keepFrozen c2 z1 fz1
        replace z1 := keepCell c2 z1
        replace fz2 := keepFrozen c2 z2 fz2
        replace z2 := keepCell c2 z2
        replace hB := belowT hB c2
        clear c2 d2
        go_wp2_with fail
        refine (C1.out _ ?_).mono ?_
        · exact hT0.out.1.below (belowT hB (by go_grown))
        rintro e v3 ⟨rfl, d3⟩
        have c3 : Below v2.heap.size v2 v3 := Below.trans (by go_grown) (d3.mono (by simp; try omega))
        replace fz0 := keepFrozen c3 z0 fz0
        replace z0 := keepCell c3 z0
        replace qz0 := World.block_lt_of_cell? _ _ z0
        replace fz1 := keepFrozen c3 z1 fz1
        replace z1 := keepCell c3 z1
        replace fz2 := keepFrozen c3 z2 fz2
        replace z2 := keepCell c3 z2
        replace hB := belowT hB c3
        clear c3 d3
        have hal := (allocB v3 (.cells #[.int .i64 (n : Int), .int .i64 A, .int .i64 B] 34)).drew
        have d0 : (v3.alloc (.cells #[.int .i64 (n : Int), .int .i64 A, .int .i64 B] 34)).drew.cell? ⟨v3.heap.size, 0, none⟩ = some (.int .i64 (n : Int)) := by go_simp
        have d1 : (v3.alloc (.cells #[.int .i64 (n : Int), .int .i64 A, .int .i64 B] 34)).drew.cell? ⟨v3.heap.size, 1, none⟩ = some (.int .i64 A) := by go_simp
        have d2 : (v3.alloc (.cells #[.int .i64 (n : Int), .int .i64 A, .int .i64 B] 34)).drew.cell? ⟨v3.heap.size, 2, none⟩ = some (.int .i64 B) := by go_simp
        have hS0 : (v3.alloc (.cells #[.int .i64 (n : Int), .int .i64 A, .int .i64 B] 34)).drew.cell? ⟨w.heap.size, 0, none⟩ = some (.int .i64 (n : Int)) ∧ (v3.alloc (.cells #[.int .i64 (n : Int), .int .i64 A, .int .i64 B] 34)).drew.cell? ⟨w.heap.size, 1, none⟩ = some (.int .i64 A) ∧ (v3.alloc (.cells #[.int .i64 (n : Int), .int .i64 A, .int .i64 B] 34)).drew.cell? ⟨w.heap.size, 2, none⟩ = some (.int .i64 B)
            ∧ (v3.alloc (.cells #[.int .i64 (n : Int), .int .i64 A, .int .i64 B] 34)).drew.cell? ⟨v3.heap.size, 0, none⟩ = some (.int .i64 (n : Int)) ∧ (v3.alloc (.cells #[.int .i64 (n : Int), .int .i64 A, .int .i64 B] 34)).drew.cell? ⟨v3.heap.size, 1, none⟩ = some (.int .i64 A) ∧ (v3.alloc (.cells #[.int .i64 (n : Int), .int .i64 A, .int .i64 B] 34)).drew.cell? ⟨v3.heap.size, 2, none⟩ = some (.int .i64 B)
            ∧ Below v3.heap.size v3 (v3.alloc (.cells #[.int .i64 (n : Int), .int .i64 A, .int .i64 B] 34)).drew := ⟨keepCell hal z0, keepCell hal z1, keepCell hal z2, d0, d1, d2, hal⟩
        go_wp2_with fail
        go_region_held3 (fun w' => w'.cell? ⟨w.heap.size, 0, none⟩ = some (.int .i64 (n : Int)) ∧ w'.cell? ⟨w.heap.size, 1, none⟩ = some (.int .i64 A) ∧ w'.cell? ⟨w.heap.size, 2, none⟩ = some (.int .i64 B) ∧ w'.cell? ⟨v3.heap.size, 0, none⟩ = some (.int .i64 (n : Int)) ∧ w'.cell? ⟨v3.heap.size, 1, none⟩ = some (.int .i64 A) ∧ w'.cell? ⟨v3.heap.size, 2, none⟩ = some (.int .i64 B) ∧ Below v3.heap.size v3 w') (first | exact hS0 | exact keepSix hb (by assumption))
          (first | (go_at_call 12; refine (K1.out _).mono ?_; rintro e w' ⟨rfl, hb⟩) | (go_at_call 10; refine (R1.out _).mono ?_; rintro e w' ⟨rfl, hb⟩))
        rename_i hS
        have hW := hS.2.2.2.2.2.2
        replace fz0 := keepFrozen hW z0 fz0
        replace fz1 := keepFrozen hW z1 fz1
        replace fz2 := keepFrozen hW z2 fz2
        replace z0 := keepCell hW z0
        replace z1 := keepCell hW z1
        replace z2 := keepCell hW z2
        replace hB := belowT hB hW
        clear hS0 hS d0 d1 d2 hal O1 W1 C1 K1 R1 hW
        have qz0 := World.block_lt_of_cell? _ _ z0
        go_wp2_with fail
        refine (SO.out _).mono ?_
        rintro e u1 ⟨⟨P, Q, rfl, hO2⟩, d1⟩
        have c1 : Below w'.heap.size w' u1 := Below.trans (by go_grown) (d1.mono (by simp; try omega))
        replace fz0 := keepFrozen c1 z0 fz0
        replace z0 := keepCell c1 z0
        replace qz0 := World.block_lt_of_cell? _ _ z0
        replace fz1 := keepFrozen c1 z1 fz1
        replace z1 := keepCell c1 z1
        replace fz2 := keepFrozen c1 z2 fz2
        replace z2 := keepCell c1 z2
        replace hB := belowT hB c1
        clear c1 d1
        obtain ⟨g0, g1, g2⟩ := three_stores (u0 := .int .i64 sz) (u1 := .int .i64 P) (u2 := .int .i64 Q) z0 z1 z2
        go_wp2
        go_roundw
        case rel => exact ⟨k + 1, sz, P, Q, by omega, by go_num, g0, g1, g2, by simp [fz0], by simp [fz1], by simp [fz2], ((hB.setCell (by simp) _).setCell (by simp) _).setCell (by simp) _⟩
        case measure => simp [intOf]; omega
      · have O1 : Hid _ := iof_bad R A B hO
        have W1 : Hid _ := rword_bad R A B hO
        clear hO
        have qz0 := World.block_lt_of_cell? _ _ z0
        go_wp2_with fail
        refine (O1.out _ ?_).mono ?_
        · exact hT0.out.1.below (belowT hB (by go_grown))
        rintro e v1 ⟨rfl, d1⟩
        have c1 : Below wr.heap.size wr v1 := Below.trans (by go_grown) (d1.mono (by simp; try omega))
        replace fz0 := keepFrozen c1 z0 fz0
        replace z0 := keepCell c1 z0
        replace qz0 := World.block_lt_of_cell? _ _ z0
        replace fz1 := keepFrozen c1 z1 fz1
        replace z1 := keepCell c1 z1
        replace fz2 := keepFrozen c1 z2 fz2
        replace z2 := keepCell c1 z2
        replace hB := belowT hB c1
        clear c1 d1
        go_wp2_with fail
        refine (W1.out _).mono ?_
        rintro e v2 ⟨rfl, d2⟩
        have c2 : Below v1.heap.size v1 v2 := Below.trans (by go_grown) (d2.mono (by simp; try omega))
        replace fz0 := keepFrozen c2 z0 fz0
        replace z0 := keepCell c2 z0
        replace qz0 := World.block_lt_of_cell? _ _ z0
        replace fz1 := keepFrozen c2 z1 fz1
        replace z1 := keepCell c2 z1
        replace fz2 := keepFrozen c2 z2 fz2
        replace z2 := keepCell c2 z2
        replace hB := belowT hB c2
        clear c2 d2
        go_wp2_with fail
        refine (SO.out _).mono ?_
        rintro e v3 ⟨⟨P, Q, rfl, hO2⟩, d3⟩
        have c3 : Below v2.heap.size v2 v3 := Below.trans (by go_grown) (d3.mono (by simp; try omega))
        replace fz0 := keepFrozen c3 z0 fz0
        replace z0 := keepCell c3 z0
        replace qz0 := World.block_lt_of_cell? _ _ z0
        replace fz1 := keepFrozen c3 z1 fz1
        replace z1 := keepCell c3 z1
        replace fz2 := keepFrozen c3 z2 fz2
        replace z2 := keepCell c3 z2
        replace hB := belowT hB c3
        clear c3 d3
        obtain ⟨g0, g1, g2⟩ := three_stores (u0 := .int .i64 sz) (u1 := .int .i64 P) (u2 := .int .i64 Q) z0 z1 z2
        go_wp2
        go_roundw
        case rel => exact ⟨k + 1, sz, P, Q, by omega, by go_num, g0, g1, g2, by simp [fz0], by simp [fz1], by simp [fz2], ((hB.setCell (by simp) _).setCell (by simp) _).setCell (by simp) _⟩
        case measure => simp [intOf]; omega
    · obtain rfl : k = 2 := by omega
      have qz0 := World.block_lt_of_cell? _ _ z0
      go_wp2_with fail
      refine (iawake _ ?_).mono ?_
      · exact hT0.out.below (belowT hB (by go_grown))
      rintro e v1 ⟨rfl, d1⟩
      have c1 : Below wr.heap.size wr v1 := Below.trans (by go_grown) (d1.mono (by simp; try omega))
      replace fz0 := keepFrozen c1 z0 fz0
      replace z0 := keepCell c1 z0
      replace qz0 := World.block_lt_of_cell? _ _ z0
      replace fz1 := keepFrozen c1 z1 fz1
      replace z1 := keepCell c1 z1
      replace fz2 := keepFrozen c1 z2 fz2
      replace z2 := keepCell c1 z2
      replace hB := belowT hB c1
      clear c1 d1
      go_wp2
      go_ret
      exact ⟨rfl, hB⟩
end Go.Proofs.YtlipbdiijjfheaaGreatDoor
