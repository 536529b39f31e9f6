/-
  What the laws of words ask of the program at each end: true, in whatever memory where the tables hold what their texts lay.
-/
import Derived.Test.YtlipbdiijjfheaaGreatDoorIOf
import Derived.Test.YtlipbdiijjfheaaGreatDoorWDig
import Derived.Test.YtlipbdiijjfheaaGreatDoorIText
namespace Go.Proofs.YtlipbdiijjfheaaGreatDoor
open Go.RowKit

/-- The three tables, as their texts lay them. -/
def Five (w : World) : Prop := Tabs w ∧ DeB w
theorem Five.below {w w' : World} (h : Five w) (hb : Below w.heap.size w w') : Five w' := ⟨h.1.below hb, h.2.below hb⟩

theorem ok_zero : Ok4 ((0 : Nat) : Int) 0 0 := ok4_of (by decide +kernel)
theorem word_zero : wordOf 0 0 0 = 1188985554717376511 := by decide +kernel
theorem whole_zero : Whole 1188985554717376511 := by rw [← word_zero]; exact (word_parts ok_zero).1
theorem text_zero : text16 1188985554717376511 = ⟨#[49, 48, 56, 48, 50, 48, 48, 102, 102, 102, 102, 102, 102, 102, 102, 102]⟩ := by decide +kernel

set_option maxHeartbeats 2000000 in
set_option maxRecDepth 20000 in
theorem iawake (w : World) (hT : Five w) :
    Calls Tryz.prog 13 #[] w fun e w' => e = .returned (.bool true) ∧ Below w.heap.size w w' := by
  have O1 : Hid (∀ w, Tabs w → Calls Tryz.prog 18 #[.agg #[.int .i64 0, .int .i64 0, .int .i64 0]] w fun e w' => e = .returned (.tuple #[.int .u64 1188985554717376511, .int .i64 0]) ∧ Below w.heap.size w w') := fun w hT => by
    have := iof_yes 0 0 0 ok_zero w hT
    rwa [word_zero] at this
  have R1 : Hid (∀ w, Calls Tryz.prog 10 #[.int .u64 1188985554717376511] w fun e w' => e = .returned (.int .i64 0) ∧ Below w.heap.size w w') := fun w => ires_yes _ whole_zero w
  have R2 : Hid (∀ w, Calls Tryz.prog 10 #[.int .u64 0] w fun e w' => e = .returned (.int .i64 (-1)) ∧ Below w.heap.size w w') := fun w => ires_no 0 ⟨by omega, by omega⟩ (fun h => by have := h.1; omega) w
  have T1 : Hid (∀ w, DeB w → Calls Tryz.prog 15 #[.int .u64 1188985554717376511] w fun e w' => e = .returned (.string ⟨#[49, 48, 56, 48, 50, 48, 48, 102, 102, 102, 102, 102, 102, 102, 102, 102]⟩) ∧ Below w.heap.size w w') := fun w hD => by
    have := itext 1188985554717376511 (by omega) w hD
    rwa [text_zero] at this
  have hT0 : Hid (Five w) := hT
  clear hT
  go_enter Tryz.func13, Tryz.ntmps13
  go_wp2_with fail
  refine (O1.out _ ?_).mono ?_
  · exact hT0.out.1.below (by go_grown)
  rintro e w1 ⟨rfl, d1⟩
  have c1 : Below w.heap.size w w1 := Below.trans (by go_grown) (d1.mono (by simp; try omega))
  have hB := c1
  clear c1 d1
  go_wp2_with fail
  refine (R1.out _).mono ?_
  rintro e w2 ⟨rfl, d2⟩
  have c2 : Below w1.heap.size w1 w2 := Below.trans (by go_grown) (d2.mono (by simp; try omega))
  replace hB := belowT hB c2
  clear c2 d2
  go_wp2_with fail
  refine (R2.out _).mono ?_
  rintro e w3 ⟨rfl, d3⟩
  have c3 : Below w2.heap.size w2 w3 := Below.trans (by go_grown) (d3.mono (by simp; try omega))
  replace hB := belowT hB c3
  clear c3 d3
  go_wp2_with fail
  refine (T1.out _ ?_).mono ?_
  · exact hT0.out.2.below (belowT hB (by go_grown))
  rintro e w4 ⟨rfl, d4⟩
  have c4 : Below w3.heap.size w3 w4 := Below.trans (by go_grown) (d4.mono (by simp; try omega))
  replace hB := belowT hB c4
  clear c4 d4
  go_wp2
  go_ret
  exact ⟨rfl, hB⟩
end Go.Proofs.YtlipbdiijjfheaaGreatDoor
