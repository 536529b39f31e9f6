/-
  Where package cell's Within says no ahead of any walk up: a cell that may not be, or a coarser one; in whatever memory where the tables of Units and of digits hold what their texts lay.
-/
import Derived.Test.YtnnbdlnginkldabDoorCCell
namespace Go.Proofs.YtnnbdlnginkldabDoor
open Go.RowKit

set_option maxHeartbeats 4000000 in
theorem cwithin_finer (r a b t p q : Int) (hl : decide (t ≤ r) = false)
    (O1 : ∀ w, Tabs w → Calls Tryd.prog 20 #[.agg #[.int .i64 r, .int .i64 a, .int .i64 b]] w fun e w' => e = .returned (.bool true) ∧ Below w.heap.size w w')
    (O2 : ∀ w, Tabs w → Calls Tryd.prog 20 #[.agg #[.int .i64 t, .int .i64 p, .int .i64 q]] w fun e w' => e = .returned (.bool true) ∧ Below w.heap.size w w')
    (w : World) (hT : Tabs w) :
    Calls Tryd.prog 7 #[.agg #[.int .i64 r, .int .i64 a, .int .i64 b], .agg #[.int .i64 t, .int .i64 p, .int .i64 q]] w fun e w' => e = .returned (.bool false) ∧ Below w.heap.size w w' := by
  replace O1 : Hid _ := O1
  replace O2 : Hid _ := O2
  have hT0 : Hid (Tabs w) := hT
  have hS0 : ((w.alloc (.cells #[.int .i64 r, .int .i64 a, .int .i64 b] 25)).alloc (.cells #[.int .i64 t, .int .i64 p, .int .i64 q] 25)).drew.cell? ⟨w.heap.size, 0, none⟩ = some (.int .i64 r) ∧ ((w.alloc (.cells #[.int .i64 r, .int .i64 a, .int .i64 b] 25)).alloc (.cells #[.int .i64 t, .int .i64 p, .int .i64 q] 25)).drew.cell? ⟨w.heap.size, 1, none⟩ = some (.int .i64 a) ∧ ((w.alloc (.cells #[.int .i64 r, .int .i64 a, .int .i64 b] 25)).alloc (.cells #[.int .i64 t, .int .i64 p, .int .i64 q] 25)).drew.cell? ⟨w.heap.size, 2, none⟩ = some (.int .i64 b) ∧ ((w.alloc (.cells #[.int .i64 r, .int .i64 a, .int .i64 b] 25)).alloc (.cells #[.int .i64 t, .int .i64 p, .int .i64 q] 25)).drew.cell? ⟨w.heap.size + 1, 0, none⟩ = some (.int .i64 t) ∧ ((w.alloc (.cells #[.int .i64 r, .int .i64 a, .int .i64 b] 25)).alloc (.cells #[.int .i64 t, .int .i64 p, .int .i64 q] 25)).drew.cell? ⟨w.heap.size + 1, 1, none⟩ = some (.int .i64 p) ∧ ((w.alloc (.cells #[.int .i64 r, .int .i64 a, .int .i64 b] 25)).alloc (.cells #[.int .i64 t, .int .i64 p, .int .i64 q] 25)).drew.cell? ⟨w.heap.size + 1, 2, none⟩ = some (.int .i64 q) ∧ Below w.heap.size w ((w.alloc (.cells #[.int .i64 r, .int .i64 a, .int .i64 b] 25)).alloc (.cells #[.int .i64 t, .int .i64 p, .int .i64 q] 25)).drew := ⟨by go_simp, by go_simp, by go_simp, by go_simp, by go_simp, by go_simp, by go_grown⟩
  obtain ⟨s0, s1, s2, s3, s4, s5, hal⟩ := hS0
  clear hT
  go_enter Tryd.func7, Tryd.ntmps7
  go_wp2_with fail
  (first | (go_region_with (go_at_call 20; first | (with_reducible refine (O1.out _ (hT0.out.below hal)).mono ?_; rintro e w' ⟨rfl, hb⟩; replace s0 := keepCell hb s0; replace s1 := keepCell hb s1; replace s2 := keepCell hb s2; replace s3 := keepCell hb s3; replace s4 := keepCell hb s4; replace s5 := keepCell hb s5; replace hal := belowT hal hb) | (with_reducible refine (O2.out _ (hT0.out.below hal)).mono ?_; rintro e w' ⟨rfl, hb⟩; replace s0 := keepCell hb s0; replace s1 := keepCell hb s1; replace s2 := keepCell hb s2; replace s3 := keepCell hb s3; replace s4 := keepCell hb s4; replace s5 := keepCell hb s5; replace hal := belowT hal hb))) | fail)
  all_goals
    clear s0 s1 s2 s3 s4 s5
    go_wp2
    go_ret
    exact ⟨rfl, hal⟩

set_option maxHeartbeats 4000000 in
theorem cwithin_bad1 (r a b t p q : Int)
    (O1 : ∀ w, Tabs w → Calls Tryd.prog 20 #[.agg #[.int .i64 r, .int .i64 a, .int .i64 b]] w fun e w' => e = .returned (.bool false) ∧ Below w.heap.size w w')
    (w : World) (hT : Tabs w) :
    Calls Tryd.prog 7 #[.agg #[.int .i64 r, .int .i64 a, .int .i64 b], .agg #[.int .i64 t, .int .i64 p, .int .i64 q]] w fun e w' => e = .returned (.bool false) ∧ Below w.heap.size w w' := by
  replace O1 : Hid _ := O1
  have hT0 : Hid (Tabs w) := hT
  have hS0 : ((w.alloc (.cells #[.int .i64 r, .int .i64 a, .int .i64 b] 25)).alloc (.cells #[.int .i64 t, .int .i64 p, .int .i64 q] 25)).drew.cell? ⟨w.heap.size, 0, none⟩ = some (.int .i64 r) ∧ ((w.alloc (.cells #[.int .i64 r, .int .i64 a, .int .i64 b] 25)).alloc (.cells #[.int .i64 t, .int .i64 p, .int .i64 q] 25)).drew.cell? ⟨w.heap.size, 1, none⟩ = some (.int .i64 a) ∧ ((w.alloc (.cells #[.int .i64 r, .int .i64 a, .int .i64 b] 25)).alloc (.cells #[.int .i64 t, .int .i64 p, .int .i64 q] 25)).drew.cell? ⟨w.heap.size, 2, none⟩ = some (.int .i64 b) ∧ ((w.alloc (.cells #[.int .i64 r, .int .i64 a, .int .i64 b] 25)).alloc (.cells #[.int .i64 t, .int .i64 p, .int .i64 q] 25)).drew.cell? ⟨w.heap.size + 1, 0, none⟩ = some (.int .i64 t) ∧ ((w.alloc (.cells #[.int .i64 r, .int .i64 a, .int .i64 b] 25)).alloc (.cells #[.int .i64 t, .int .i64 p, .int .i64 q] 25)).drew.cell? ⟨w.heap.size + 1, 1, none⟩ = some (.int .i64 p) ∧ ((w.alloc (.cells #[.int .i64 r, .int .i64 a, .int .i64 b] 25)).alloc (.cells #[.int .i64 t, .int .i64 p, .int .i64 q] 25)).drew.cell? ⟨w.heap.size + 1, 2, none⟩ = some (.int .i64 q) ∧ Below w.heap.size w ((w.alloc (.cells #[.int .i64 r, .int .i64 a, .int .i64 b] 25)).alloc (.cells #[.int .i64 t, .int .i64 p, .int .i64 q] 25)).drew := ⟨by go_simp, by go_simp, by go_simp, by go_simp, by go_simp, by go_simp, by go_grown⟩
  obtain ⟨s0, s1, s2, s3, s4, s5, hal⟩ := hS0
  clear hT
  go_enter Tryd.func7, Tryd.ntmps7
  go_wp2_with fail
  (first | (go_region_with (go_at_call 20; refine (O1.out _ (hT0.out.below hal)).mono ?_; rintro e w' ⟨rfl, hb⟩; replace s0 := keepCell hb s0; replace s1 := keepCell hb s1; replace s2 := keepCell hb s2; replace s3 := keepCell hb s3; replace s4 := keepCell hb s4; replace s5 := keepCell hb s5; replace hal := belowT hal hb)) | fail)
  all_goals
    clear s0 s1 s2 s3 s4 s5
    go_wp2
    go_ret
    exact ⟨rfl, hal⟩

set_option maxHeartbeats 4000000 in
theorem cwithin_bad2 (r a b t p q : Int)
    (O1 : ∀ w, Tabs w → Calls Tryd.prog 20 #[.agg #[.int .i64 r, .int .i64 a, .int .i64 b]] w fun e w' => e = .returned (.bool true) ∧ Below w.heap.size w w')
    (O2 : ∀ w, Tabs w → Calls Tryd.prog 20 #[.agg #[.int .i64 t, .int .i64 p, .int .i64 q]] w fun e w' => e = .returned (.bool false) ∧ Below w.heap.size w w')
    (w : World) (hT : Tabs w) :
    Calls Tryd.prog 7 #[.agg #[.int .i64 r, .int .i64 a, .int .i64 b], .agg #[.int .i64 t, .int .i64 p, .int .i64 q]] w fun e w' => e = .returned (.bool false) ∧ Below w.heap.size w w' := by
  replace O1 : Hid _ := O1
  replace O2 : Hid _ := O2
  have hT0 : Hid (Tabs w) := hT
  have hS0 : ((w.alloc (.cells #[.int .i64 r, .int .i64 a, .int .i64 b] 25)).alloc (.cells #[.int .i64 t, .int .i64 p, .int .i64 q] 25)).drew.cell? ⟨w.heap.size, 0, none⟩ = some (.int .i64 r) ∧ ((w.alloc (.cells #[.int .i64 r, .int .i64 a, .int .i64 b] 25)).alloc (.cells #[.int .i64 t, .int .i64 p, .int .i64 q] 25)).drew.cell? ⟨w.heap.size, 1, none⟩ = some (.int .i64 a) ∧ ((w.alloc (.cells #[.int .i64 r, .int .i64 a, .int .i64 b] 25)).alloc (.cells #[.int .i64 t, .int .i64 p, .int .i64 q] 25)).drew.cell? ⟨w.heap.size, 2, none⟩ = some (.int .i64 b) ∧ ((w.alloc (.cells #[.int .i64 r, .int .i64 a, .int .i64 b] 25)).alloc (.cells #[.int .i64 t, .int .i64 p, .int .i64 q] 25)).drew.cell? ⟨w.heap.size + 1, 0, none⟩ = some (.int .i64 t) ∧ ((w.alloc (.cells #[.int .i64 r, .int .i64 a, .int .i64 b] 25)).alloc (.cells #[.int .i64 t, .int .i64 p, .int .i64 q] 25)).drew.cell? ⟨w.heap.size + 1, 1, none⟩ = some (.int .i64 p) ∧ ((w.alloc (.cells #[.int .i64 r, .int .i64 a, .int .i64 b] 25)).alloc (.cells #[.int .i64 t, .int .i64 p, .int .i64 q] 25)).drew.cell? ⟨w.heap.size + 1, 2, none⟩ = some (.int .i64 q) ∧ Below w.heap.size w ((w.alloc (.cells #[.int .i64 r, .int .i64 a, .int .i64 b] 25)).alloc (.cells #[.int .i64 t, .int .i64 p, .int .i64 q] 25)).drew := ⟨by go_simp, by go_simp, by go_simp, by go_simp, by go_simp, by go_simp, by go_grown⟩
  obtain ⟨s0, s1, s2, s3, s4, s5, hal⟩ := hS0
  clear hT
  go_enter Tryd.func7, Tryd.ntmps7
  go_wp2_with fail
  (first | (go_region_with (go_at_call 20; first | (with_reducible refine (O1.out _ (hT0.out.below hal)).mono ?_; rintro e w' ⟨rfl, hb⟩; replace s0 := keepCell hb s0; replace s1 := keepCell hb s1; replace s2 := keepCell hb s2; replace s3 := keepCell hb s3; replace s4 := keepCell hb s4; replace s5 := keepCell hb s5; replace hal := belowT hal hb) | (with_reducible refine (O2.out _ (hT0.out.below hal)).mono ?_; rintro e w' ⟨rfl, hb⟩; replace s0 := keepCell hb s0; replace s1 := keepCell hb s1; replace s2 := keepCell hb s2; replace s3 := keepCell hb s3; replace s4 := keepCell hb s4; replace s5 := keepCell hb s5; replace hal := belowT hal hb))) | fail)
  all_goals
    clear s0 s1 s2 s3 s4 s5
    go_wp2
    go_ret
    exact ⟨rfl, hal⟩

end Go.Proofs.YtnnbdlnginkldabDoor
