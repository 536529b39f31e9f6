/-
  Which of two spots comes first, as package cover tells; in whatever memory.
-/
import Derived.Test.YtdklpgphmoaniaaGreatDoorE1X
import Derived.Test.YtdklpgphmoaniaaGreatDoorQCmp
import Derived.Test.YtdklpgphmoaniaaGreatDoorProg
import Derived.Handy
import Derived.Deep.QuietTactic
import Derived.WalkSpells
import Derived.WalkLawsBesides
import Derived.BigQuiet
import Derived.PlainAid
import Derived.Deep.RegionWith
import Derived.Laws.BitsAllLaws
import Derived.Sort.LotA
import Derived.Sort.LotB
import Derived.Deep.RegionHeld3
import Derived.WalkSmall
import Derived.Deep.CutRange
import Derived.BigRegion
import Derived.OwnWalk
import Derived.Laws.OwnMore
import Derived.OneCell
import Derived.Laws.CopyOwn
import Derived.Sort.Row
namespace Go.Proofs.YtdklpgphmoaniaaGreatDoor
open Go.RowKit

def spA (x : Int) : Value := .agg #[.int .i64 (sp0 x), .int .i64 (sp1 x), .int .i64 (sp2 x)]

set_option maxHeartbeats 4000000 in
set_option maxRecDepth 100000 in
theorem c_compare_core (x0 x1 x2 y0 y1 y2 p q r Z : Int) (hZ : orG (threeG p q r) = Z) (C0 : Hid (∀ w, Calls Tryz.prog 202 #[.int .i64 x0, .int .i64 y0] w fun e w' => e = .returned (.int .i64 p) ∧ w' = w)) (C1 : Hid (∀ w, Calls Tryz.prog 202 #[.int .i64 x1, .int .i64 y1] w fun e w' => e = .returned (.int .i64 q) ∧ w' = w)) (C2 : Hid (∀ w, Calls Tryz.prog 202 #[.int .i64 x2, .int .i64 y2] w fun e w' => e = .returned (.int .i64 r) ∧ w' = w)) (w : World) :
    Calls Tryz.prog 200 #[.agg #[.int .i64 x0, .int .i64 x1, .int .i64 x2], .agg #[.int .i64 y0, .int .i64 y1, .int .i64 y2]] w fun e w' => e = .returned (.int .i64 Z) ∧ Below w.heap.size w w' := by
  have OR := hidd fun g c w h0 h1 h2 => c_or3 g c p q r Z hZ w h0 h1 h2
  clear hZ
  go_enter Tryz.func200, Tryz.ntmps200
  go_wp2_with fail
  have al := belowT (allocB w (.cells #[.int .i64 x0, .int .i64 x1, .int .i64 x2] 188)) (allocB (w.alloc (.cells #[.int .i64 x0, .int .i64 x1, .int .i64 x2] 188)) (.cells #[.int .i64 y0, .int .i64 y1, .int .i64 y2] 188))
  have a0 : ((w.alloc (.cells #[.int .i64 x0, .int .i64 x1, .int .i64 x2] 188)).alloc (.cells #[.int .i64 y0, .int .i64 y1, .int .i64 y2] 188)).cell? ⟨w.heap.size, 0, none⟩ = some (.int .i64 x0) := by go_simp
  have a1 : ((w.alloc (.cells #[.int .i64 x0, .int .i64 x1, .int .i64 x2] 188)).alloc (.cells #[.int .i64 y0, .int .i64 y1, .int .i64 y2] 188)).cell? ⟨w.heap.size, 1, none⟩ = some (.int .i64 x1) := by go_simp
  have a2 : ((w.alloc (.cells #[.int .i64 x0, .int .i64 x1, .int .i64 x2] 188)).alloc (.cells #[.int .i64 y0, .int .i64 y1, .int .i64 y2] 188)).cell? ⟨w.heap.size, 2, none⟩ = some (.int .i64 x2) := by go_simp
  have b0 : ((w.alloc (.cells #[.int .i64 x0, .int .i64 x1, .int .i64 x2] 188)).alloc (.cells #[.int .i64 y0, .int .i64 y1, .int .i64 y2] 188)).cell? ⟨w.heap.size + 1, 0, none⟩ = some (.int .i64 y0) := by go_simp
  have b1 : ((w.alloc (.cells #[.int .i64 x0, .int .i64 x1, .int .i64 x2] 188)).alloc (.cells #[.int .i64 y0, .int .i64 y1, .int .i64 y2] 188)).cell? ⟨w.heap.size + 1, 1, none⟩ = some (.int .i64 y1) := by go_simp
  have b2 : ((w.alloc (.cells #[.int .i64 x0, .int .i64 x1, .int .i64 x2] 188)).alloc (.cells #[.int .i64 y0, .int .i64 y1, .int .i64 y2] 188)).cell? ⟨w.heap.size + 1, 2, none⟩ = some (.int .i64 y2) := by go_simp
  generalize (w.alloc (.cells #[.int .i64 x0, .int .i64 x1, .int .i64 x2] 188)).alloc (.cells #[.int .i64 y0, .int .i64 y1, .int .i64 y2] 188) = W2 at *
  have hS0 := keepSixQ (drewB W2) ⟨a0, a1, a2, b0, b1, b2, al⟩
  go_region_held3 (fun w' => w'.cell? ⟨w.heap.size, 0, none⟩ = some (.int .i64 x0) ∧ w'.cell? ⟨w.heap.size, 1, none⟩ = some (.int .i64 x1) ∧ w'.cell? ⟨w.heap.size, 2, none⟩ = some (.int .i64 x2) ∧ w'.cell? ⟨w.heap.size + 1, 0, none⟩ = some (.int .i64 y0) ∧ w'.cell? ⟨w.heap.size + 1, 1, none⟩ = some (.int .i64 y1) ∧ w'.cell? ⟨w.heap.size + 1, 2, none⟩ = some (.int .i64 y2) ∧ Below w.heap.size w w') (first | exact hS0 | assumption | exact keepSixQ (allocB _ _) (by assumption))
    (first | (go_at_call 202; (first | with_reducible refine (C0.out _).mono ?_ | with_reducible refine (C1.out _).mono ?_ | with_reducible refine (C2.out _).mono ?_); rintro e w' ⟨rfl, rfl⟩) | (go_at_call 201; refine (OR.out _ _ _ (by go_simp) (by go_simp) (by go_simp)).mono ?_; rintro e w' ⟨rfl, rfl⟩))
  go_wp2
  go_ret
  rename_i hS
  exact ⟨rfl, hS.2.2.2.2.2.2⟩

theorem c_compare (x y : Int) (w : World) : Calls Tryz.prog 200 #[spA x, spA y] w fun e w' => e = .returned (.int .i64 (cmpS x y)) ∧ Below w.heap.size w w' :=
  c_compare_core _ _ _ _ _ _ _ _ _ _ (cmpS_or x y) (hidd fun w => c_cmp _ _ w) (hidd fun w => c_cmp _ _ w) (hidd fun w => c_cmp _ _ w) w

end Go.Proofs.YtdklpgphmoaniaaGreatDoor
